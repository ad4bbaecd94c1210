/-
  No cell of these rows narrows 'for every input' (looked for: loops, veiled, ifaces, maps, wideKeys, modest, calm, conditions, laid).
  DERIVED. THE GIVEN ROWS OF THIS SEAT. 6 by the template 'for every input the law returns true; each argument reads behind the call as it read before'; 0 by the template 'total and deterministic' (their statements: YtbaccghnneidgaaGreatTotals.lean).
  GIVEN WITH THE SEED: the statements are not yours to turn. If you find one false, say at which input.
  Laid BY PROGRAM, IN A SANDBOX (cutbox-rows.mjs): the forced cells as the released guide's own fill.sh prints them over the translation 7815d4225140aa77… (all of the seat's roots in one cut). By AI agents, Wed Nov 11 2026. No macro, syntax, notation, axiom, sorry.
-/
import Derived.Test.YtbaccghnneidgaaGreatChecked
import GoSem.Claim
import GoSem.ClaimJoined
import GoSem.ClaimMapViews
import Derived.JoinedTies
import Derived.KernelRfl
namespace Go.Proofs.YtbaccghnneidgaaGreat
/- THE CELL 'sum', in the pinned program and in every row, IS THE sha256 OF THE DUMP (.gsa) THAT YtbaccghnneidgaaGreatProg.lean LOADS. Nothing in Lean hashes anything: it is a label: what it is worth is what the hold of that sum in a sandbox is worth. -/
noncomputable def Tryz.pinned : Pinned := { name := "ytbaccghnneidgaagreat", sum := "7815d4225140aa77f0d75d56c32759f26f12dfa6201a59b5d6121f90799a2617", checked := Tryz.checked }
namespace Rows
def none {H : Type} : Left H := { results := [], args := [] }

/-- 'usufructlaw07.FieldTells': WHATEVER THE INPUT: true; the input reads as it did. -/
def fieldTellsSpec : ChangeSpec := { name := "fieldTells", fn := fun _ => fun
  | [d1, d2, d3] => { results := [.lit (.bool true)], args := [d1, d2, d3] }
  | _ => none }
def fieldTellsRow : OpenClaim := { program := "ytbaccghnneidgaagreat", sum := "7815d4225140aa77f0d75d56c32759f26f12dfa6201a59b5d6121f90799a2617", func := "usufruct/usufructlaw07.FieldTells", spec := "fieldTells", unfollowed := true, recurses := true, plainKeys := false, apart := false }
def FieldTellsSaid : Prop := fieldTellsRow.holds Tryz.pinned (OpenSpec.ofChange fieldTellsSpec)

/-- ITS FALSE NEIGHBOUR: 'it returns false'. Refute it at one input. -/
def fieldTellsWrong : ChangeSpec := { name := "fieldTells", fn := fun _ => fun
  | [d1, d2, d3] => { results := [.lit (.bool false)], args := [d1, d2, d3] }
  | _ => none }
def FieldTellsWrongFalsely : Prop := fieldTellsRow.holds Tryz.pinned (OpenSpec.ofChange fieldTellsWrong)

/-- 'usufructlaw07.FieldMakes': WHATEVER THE INPUT: true; the input reads as it did. -/
def fieldMakesSpec : ChangeSpec := { name := "fieldMakes", fn := fun _ => fun
  | [d1, d2, d3, d4] => { results := [.lit (.bool true)], args := [d1, d2, d3, d4] }
  | _ => none }
def fieldMakesRow : OpenClaim := { program := "ytbaccghnneidgaagreat", sum := "7815d4225140aa77f0d75d56c32759f26f12dfa6201a59b5d6121f90799a2617", func := "usufruct/usufructlaw07.FieldMakes", spec := "fieldMakes", unfollowed := true, recurses := true, plainKeys := false, apart := false }
def FieldMakesSaid : Prop := fieldMakesRow.holds Tryz.pinned (OpenSpec.ofChange fieldMakesSpec)

/-- ITS FALSE NEIGHBOUR: 'it returns false'. Refute it at one input. -/
def fieldMakesWrong : ChangeSpec := { name := "fieldMakes", fn := fun _ => fun
  | [d1, d2, d3, d4] => { results := [.lit (.bool false)], args := [d1, d2, d3, d4] }
  | _ => none }
def FieldMakesWrongFalsely : Prop := fieldMakesRow.holds Tryz.pinned (OpenSpec.ofChange fieldMakesWrong)

/-- 'usufructlaw07.FieldDoes': WHATEVER THE INPUT: true; the input reads as it did. -/
def fieldDoesSpec : ChangeSpec := { name := "fieldDoes", fn := fun _ => fun
  | [d1, d2, d3, d4, d5] => { results := [.lit (.bool true)], args := [d1, d2, d3, d4, d5] }
  | _ => none }
def fieldDoesRow : OpenClaim := { program := "ytbaccghnneidgaagreat", sum := "7815d4225140aa77f0d75d56c32759f26f12dfa6201a59b5d6121f90799a2617", func := "usufruct/usufructlaw07.FieldDoes", spec := "fieldDoes", unfollowed := true, recurses := true, plainKeys := false, apart := false }
def FieldDoesSaid : Prop := fieldDoesRow.holds Tryz.pinned (OpenSpec.ofChange fieldDoesSpec)

/-- ITS FALSE NEIGHBOUR: 'it returns false'. Refute it at one input. -/
def fieldDoesWrong : ChangeSpec := { name := "fieldDoes", fn := fun _ => fun
  | [d1, d2, d3, d4, d5] => { results := [.lit (.bool false)], args := [d1, d2, d3, d4, d5] }
  | _ => none }
def FieldDoesWrongFalsely : Prop := fieldDoesRow.holds Tryz.pinned (OpenSpec.ofChange fieldDoesWrong)

/-- 'usufructlaw07.FieldReserves': WHATEVER THE INPUT: true; the input reads as it did. -/
def fieldReservesSpec : ChangeSpec := { name := "fieldReserves", fn := fun _ => fun
  | [d1, d2, d3, d4] => { results := [.lit (.bool true)], args := [d1, d2, d3, d4] }
  | _ => none }
def fieldReservesRow : OpenClaim := { program := "ytbaccghnneidgaagreat", sum := "7815d4225140aa77f0d75d56c32759f26f12dfa6201a59b5d6121f90799a2617", func := "usufruct/usufructlaw07.FieldReserves", spec := "fieldReserves", unfollowed := true, recurses := true, plainKeys := false, apart := false }
def FieldReservesSaid : Prop := fieldReservesRow.holds Tryz.pinned (OpenSpec.ofChange fieldReservesSpec)

/-- ITS FALSE NEIGHBOUR: 'it returns false'. Refute it at one input. -/
def fieldReservesWrong : ChangeSpec := { name := "fieldReserves", fn := fun _ => fun
  | [d1, d2, d3, d4] => { results := [.lit (.bool false)], args := [d1, d2, d3, d4] }
  | _ => none }
def FieldReservesWrongFalsely : Prop := fieldReservesRow.holds Tryz.pinned (OpenSpec.ofChange fieldReservesWrong)

/-- 'usufructlaw07.FieldKinds': WHATEVER THE INPUT: true; the input reads as it did. -/
def fieldKindsSpec : ChangeSpec := { name := "fieldKinds", fn := fun _ => fun
  | [d1, d2, d3, d4] => { results := [.lit (.bool true)], args := [d1, d2, d3, d4] }
  | _ => none }
def fieldKindsRow : OpenClaim := { program := "ytbaccghnneidgaagreat", sum := "7815d4225140aa77f0d75d56c32759f26f12dfa6201a59b5d6121f90799a2617", func := "usufruct/usufructlaw07.FieldKinds", spec := "fieldKinds", unfollowed := true, recurses := true, plainKeys := false, apart := false }
def FieldKindsSaid : Prop := fieldKindsRow.holds Tryz.pinned (OpenSpec.ofChange fieldKindsSpec)

/-- ITS FALSE NEIGHBOUR: 'it returns false'. Refute it at one input. -/
def fieldKindsWrong : ChangeSpec := { name := "fieldKinds", fn := fun _ => fun
  | [d1, d2, d3, d4] => { results := [.lit (.bool false)], args := [d1, d2, d3, d4] }
  | _ => none }
def FieldKindsWrongFalsely : Prop := fieldKindsRow.holds Tryz.pinned (OpenSpec.ofChange fieldKindsWrong)

/-- 'usufructlaw07.FieldLoose': WHATEVER THE INPUT: true; the input reads as it did. -/
def fieldLooseSpec : ChangeSpec := { name := "fieldLoose", fn := fun _ => fun
  | [d1, d2, d3, d4, d5, d6] => { results := [.lit (.bool true)], args := [d1, d2, d3, d4, d5, d6] }
  | _ => none }
def fieldLooseRow : OpenClaim := { program := "ytbaccghnneidgaagreat", sum := "7815d4225140aa77f0d75d56c32759f26f12dfa6201a59b5d6121f90799a2617", func := "usufruct/usufructlaw07.FieldLoose", spec := "fieldLoose", unfollowed := true, recurses := true, plainKeys := false, apart := false }
def FieldLooseSaid : Prop := fieldLooseRow.holds Tryz.pinned (OpenSpec.ofChange fieldLooseSpec)

/-- ITS FALSE NEIGHBOUR: 'it returns false'. Refute it at one input. -/
def fieldLooseWrong : ChangeSpec := { name := "fieldLoose", fn := fun _ => fun
  | [d1, d2, d3, d4, d5, d6] => { results := [.lit (.bool false)], args := [d1, d2, d3, d4, d5, d6] }
  | _ => none }
def FieldLooseWrongFalsely : Prop := fieldLooseRow.holds Tryz.pinned (OpenSpec.ofChange fieldLooseWrong)

/- THE SECOND FORM. 'bulk': how many values and letters a reading holds, each counted each time it is reached (what is shared counts as often as it is met; a slice's spare places count too). A statement '..UptoSaid' is the law's where the arguments, and the package variables that the reading takes, are together of bulk at most 1048576: NARROWER than '..Said'. Prove '..Said' where nothing that the law and all that it calls make is longer than what came in: it says more and counts as full. Else prove '..UptoSaid'. A law counts once. -/
mutual
def uptoBulk {H : Type} : DataW H → Nat
  | .lit (.string bytes) => bytes.length + 1
  | .lit _ => 1
  | .nil => 1
  | .ptr d => uptoBulk d + 1
  | .slice elems spare => uptoBulkAll elems + uptoBulkAll spare + 1
  | .agg parts => uptoBulkAll parts + 1
  | .iface _ d => uptoBulk d + 1
  | .map entries => uptoBulkEntries entries + 1
  | .held _ => 1
def uptoBulkAll {H : Type} : List (DataW H) → Nat
  | [] => 0
  | d :: r => uptoBulk d + uptoBulkAll r
def uptoBulkEntries {H : Type} : List (Lit × DataW H) → Nat
  | [] => 0
  | x :: r => uptoBulkEntry x + uptoBulkEntries r
def uptoBulkEntry {H : Type} : Lit × DataW H → Nat
  | (.string bytes, d) => bytes.length + uptoBulk d + 1
  | (_, d) => uptoBulk d + 1
 end
def uptoSmall : (H : Type) → List (DataW H) → Bool := fun _ ds => decide (uptoBulkAll ds ≤ 1048576)
def OpenSpec.upto (s : _root_.Go.ChangeSpec) : _root_.Go.OpenSpec := { _root_.Go.OpenSpec.ofChange s with cond := some uptoSmall }

/-- 'usufructlaw07.FieldTells', WHERE WHAT IT READS IS OF BULK AT MOST 1048576: true; the input reads as it did. -/
def fieldTellsUptoRow : OpenClaim := { program := "ytbaccghnneidgaagreat", sum := "7815d4225140aa77f0d75d56c32759f26f12dfa6201a59b5d6121f90799a2617", func := "usufruct/usufructlaw07.FieldTells", spec := "fieldTells", unfollowed := true, recurses := true, plainKeys := false, apart := false, narrowed := true }
def FieldTellsUptoSaid : Prop := fieldTellsUptoRow.holds Tryz.pinned (OpenSpec.upto fieldTellsSpec)

/-- 'usufructlaw07.FieldMakes', WHERE WHAT IT READS IS OF BULK AT MOST 1048576: true; the input reads as it did. -/
def fieldMakesUptoRow : OpenClaim := { program := "ytbaccghnneidgaagreat", sum := "7815d4225140aa77f0d75d56c32759f26f12dfa6201a59b5d6121f90799a2617", func := "usufruct/usufructlaw07.FieldMakes", spec := "fieldMakes", unfollowed := true, recurses := true, plainKeys := false, apart := false, narrowed := true }
def FieldMakesUptoSaid : Prop := fieldMakesUptoRow.holds Tryz.pinned (OpenSpec.upto fieldMakesSpec)

/-- 'usufructlaw07.FieldDoes', WHERE WHAT IT READS IS OF BULK AT MOST 1048576: true; the input reads as it did. -/
def fieldDoesUptoRow : OpenClaim := { program := "ytbaccghnneidgaagreat", sum := "7815d4225140aa77f0d75d56c32759f26f12dfa6201a59b5d6121f90799a2617", func := "usufruct/usufructlaw07.FieldDoes", spec := "fieldDoes", unfollowed := true, recurses := true, plainKeys := false, apart := false, narrowed := true }
def FieldDoesUptoSaid : Prop := fieldDoesUptoRow.holds Tryz.pinned (OpenSpec.upto fieldDoesSpec)

/-- 'usufructlaw07.FieldReserves', WHERE WHAT IT READS IS OF BULK AT MOST 1048576: true; the input reads as it did. -/
def fieldReservesUptoRow : OpenClaim := { program := "ytbaccghnneidgaagreat", sum := "7815d4225140aa77f0d75d56c32759f26f12dfa6201a59b5d6121f90799a2617", func := "usufruct/usufructlaw07.FieldReserves", spec := "fieldReserves", unfollowed := true, recurses := true, plainKeys := false, apart := false, narrowed := true }
def FieldReservesUptoSaid : Prop := fieldReservesUptoRow.holds Tryz.pinned (OpenSpec.upto fieldReservesSpec)

/-- 'usufructlaw07.FieldKinds', WHERE WHAT IT READS IS OF BULK AT MOST 1048576: true; the input reads as it did. -/
def fieldKindsUptoRow : OpenClaim := { program := "ytbaccghnneidgaagreat", sum := "7815d4225140aa77f0d75d56c32759f26f12dfa6201a59b5d6121f90799a2617", func := "usufruct/usufructlaw07.FieldKinds", spec := "fieldKinds", unfollowed := true, recurses := true, plainKeys := false, apart := false, narrowed := true }
def FieldKindsUptoSaid : Prop := fieldKindsUptoRow.holds Tryz.pinned (OpenSpec.upto fieldKindsSpec)

/-- 'usufructlaw07.FieldLoose', WHERE WHAT IT READS IS OF BULK AT MOST 1048576: true; the input reads as it did. -/
def fieldLooseUptoRow : OpenClaim := { program := "ytbaccghnneidgaagreat", sum := "7815d4225140aa77f0d75d56c32759f26f12dfa6201a59b5d6121f90799a2617", func := "usufruct/usufructlaw07.FieldLoose", spec := "fieldLoose", unfollowed := true, recurses := true, plainKeys := false, apart := false, narrowed := true }
def FieldLooseUptoSaid : Prop := fieldLooseUptoRow.holds Tryz.pinned (OpenSpec.upto fieldLooseSpec)

end Rows
end Go.Proofs.YtbaccghnneidgaaGreat
