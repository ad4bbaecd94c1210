/- Contracts of num.Must and of num.Try's deferred call. -/
import Derived.Test.YtpbjencigepnfaaNumAdd
import Derived.LoopTactic
import Derived.Defers
import Derived.Recover
import Derived.Below
import Derived.WalkSmall
namespace Go.Proofs.Ytpbjencigepnfaa
open Go.ChangeShapes Go.WideShapes Go.ChangeAt Go.RowKit

/-- The panic with which a number that is too great comes up. -/
abbrev errEntry (e : Int) : PanicEntry := { v := .iface 27 (.int .i64 e), recovered := false }

theorem must_ok (n : Int) (w : World) : Calls Try.prog 47 #[.int .i64 n, .int .i64 0] w fun e w' => e = .returned (.int .i64 n) ∧ w = w' := by
  go_enter Try.func47, Try.ntmps47
  go_wp2
  go_ret
  exact ⟨rfl, rfl⟩

theorem must_bad (n x : Int) (w : World) (h : (x != 0) = true) : Calls Try.prog 47 #[.int .i64 n, .int .i64 x] w fun e w' => e = .panicked [errEntry x] ∧ w = w' := by
  go_enter Try.func47, Try.ntmps47
  go_wp2
  exact ⟨rfl, rfl, rfl⟩

theorem assert_yes (v : Value) (w : World) : (Instr.typeAssert (.iface 27 v) 20 27 true).run Try.prog w = .ok (.tuple #[v, .bool true]) w := by kernel_rfl

theorem assert_no (v : Value) (w : World) : (Instr.typeAssert (.iface 9 v) 20 27 true).run Try.prog w = .ok (.tuple #[.int .i64 0, .bool false]) w := by kernel_rfl

theorem carried_ok (x : Int) (w : World) : Calls Try.prog 53 #[.iface 27 (.int .i64 x)] w fun e w' => e = .returned (.int .i64 x) ∧ w = w' := by
  have hy := assert_yes
  have hn := assert_no
  go_enter Try.func53, Try.ntmps53
  go_wp2
  go_ret
  exact ⟨rfl, rfl⟩

theorem carried_bad (s : ByteArray) (w : World) : Calls Try.prog 53 #[.iface 9 (.string s)] w fun e w' => e = .panicked [{ v := .iface 9 (.string s), recovered := false }] ∧ w = w' := by
  have hy := assert_yes
  have hn := assert_no
  go_enter Try.func53, Try.ntmps53
  go_wp2
  exact ⟨rfl, rfl, rfl⟩

/-- Try's own deferred call, where nothing panicked. -/
theorem door_idle (p : Addr) (w : World) :
    CallsD Try.prog 52 #[.pointer (some p)] .returning w fun e u' w' => e = .returned (.tuple #[]) ∧ u' = .returning ∧ w' = w := by
  refine callsD_of_wpS Try.func52 rfl fun c₀ cs hu => ?_
  apply wpS_seq
  apply wpS_region
  simp [wpOpsS, go_sem, recoverD, hu, Try.ntmps52, Exit.thenS]
  refine wpS_of_wp ?_
  change Code.wp _ _ _ ⟨#[.pointer (some p), .nilIface, .nilIface, undef, undef, undef, undef], []⟩ _
  go_wp2
  cases c₀
  simp_all [bodyPostS, results, Try.results52]

/-- Where an error of api's came up: it is laid into the named result. -/
theorem door_err (p : Addr) (v : Value) (x : Int) (older : List PanicEntry) (w : World) (hc : w.cell? p = some v) (hz : w.frozen? p = false) :
    CallsD Try.prog 52 #[.pointer (some p)] (.panicking (errEntry x :: older)) w fun e u' w' =>
      e = .returned (.tuple #[]) ∧ u' = .panicking ({ v := .iface 27 (.int .i64 x), recovered := true } :: older) ∧ w' = w.setCell p (.int .i64 x) := by
  refine callsD_of_wpS Try.func52 rfl fun c₀ cs hu => ?_
  apply wpS_seq
  apply wpS_region
  simp [wpOpsS, go_sem, recoverD, hu, Try.ntmps52, Exit.thenS]
  refine wpS_of_wp ?_
  change Code.wp _ _ _ ⟨#[.pointer (some p), .iface 27 (.int .i64 x), .iface 27 (.int .i64 x), undef, undef, undef, undef], []⟩ _
  clear hu
  go_wp2_with ((go_at_call 53; refine (carried_ok _ _).mono ?_; rintro e w' ⟨rfl, rfl⟩))
  simp [bodyPostS, results, Try.results52]

/-- Where any other panic came up: it goes on. -/
theorem door_other (p : Addr) (s : ByteArray) (older : List PanicEntry) (w : World) :
    CallsD Try.prog 52 #[.pointer (some p)] (.panicking ({ v := .iface 9 (.string s), recovered := false } :: older)) w fun e u' w' =>
      e = .panicked [{ v := .iface 9 (.string s), recovered := false }] ∧ u' = .panicking ({ v := .iface 9 (.string s), recovered := true } :: older) ∧ w' = w := by
  refine callsD_of_wpS Try.func52 rfl fun c₀ cs hu => ?_
  apply wpS_seq
  apply wpS_region
  simp [wpOpsS, go_sem, recoverD, hu, Try.ntmps52, Exit.thenS]
  refine wpS_of_wp ?_
  change Code.wp _ _ _ ⟨#[.pointer (some p), .iface 9 (.string s), .iface 9 (.string s), undef, undef, undef, undef], []⟩ _
  clear hu
  go_wp2_with ((go_at_call 53; refine (carried_bad _ _).mono ?_; rintro e w' ⟨rfl, rfl⟩))
  simp [bodyPostS]
end Go.Proofs.Ytpbjencigepnfaa
