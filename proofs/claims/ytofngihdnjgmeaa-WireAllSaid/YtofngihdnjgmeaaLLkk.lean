/- Plain arithmetic of layer 5 (lock): which lock is behind which, and what joining, writing and passing on tell. No program is spoken of here. Locks in memory: what the operations on them do; when two are the same; locks that come in. -/
import Derived.Test.YtofngihdnjgmeaaLBase0
import Derived.WalkKit
import Derived.ProofKit
import Derived.OpenShut
import Derived.ChangeOld
namespace Go.Proofs.Ytofngihdnjgmeaa

structure Lk where
  s : Int
  v : Int
  h : Int
  x : Int
/-- Its four numbers, in their order. -/
def Lk.l (a : Lk) : List Int := [a.s, a.v, a.h, a.x]
theorem Lk.len (a : Lk) : a.l.length = 4 := rfl
theorem Lk.same (a : Lk) : (a.l == a.l) = true := by simp
/-- The zero lock. -/
def z4 : Lk := ⟨0, 0, 0, 0⟩

/-! ### New, Right, Write, Pass. -/
def repBK (k : Int) : Bool := decide (0 ≤ k) && decide (k ≤ 15)
theorem repB_iffK {k : Int} : repBK k = true ↔ (0 ≤ k ∧ k ≤ 15) := by simp [repBK]
theorem repB_notK {k : Int} : repBK k = false ↔ (k < 0 ∨ 15 < k) := by rw [← Bool.not_eq_true, repB_iffK]; omega
def cntB (n : Int) : Bool := decide (0 ≤ n) && isB n
theorem cntB_iff {n : Int} : cntB n = true ↔ (0 ≤ n ∧ n ≤ 1099511627776) := by
  simp only [cntB, Bool.and_eq_true, decide_eq_true_eq, isB_iff]; omega
def rightL (a : Lk) : Bool := cntB a.s && cntB a.v && repBK a.h && isB a.x
theorem rightL_iff {a : Lk} : rightL a = true ↔ (0 ≤ a.s ∧ a.s ≤ 1099511627776 ∧ 0 ≤ a.v ∧ a.v ≤ 1099511627776 ∧ 0 ≤ a.h ∧ a.h ≤ 15 ∧ -1099511627776 ≤ a.x ∧ a.x ≤ 1099511627776) := by
  simp only [rightL, Bool.and_eq_true, cntB_iff, repB_iffK, isB_iff, and_assoc]
end Go.Proofs.Ytofngihdnjgmeaa

namespace Go.Proofs.Ytofngihdnjgmeaa
set_option maxRecDepth 100000
open Go.ChangeShapes Go.WideShapes Go.ChangeAt Go.RowKit

/-! ### Equality. -/
theorem fields4n {fs : List Field} {x1 x2 x3 x4 : TypeId × Nat × String} (h : fs.map (fun f => (f.type, f.offset, f.name)) = [x1, x2, x3, x4]) : ∃ f1 f2 f3 f4, fs = [f1, f2, f3, f4] ∧ (f1.type, f1.offset, f1.name) = x1 ∧ (f2.type, f2.offset, f2.name) = x2 ∧ (f3.type, f3.offset, f3.name) = x3 ∧ (f4.type, f4.offset, f4.name) = x4 := by
  match fs, h with
  | [f1, f2, f3, f4], h => exact ⟨f1, f2, f3, f4, rfl, by simpa using h⟩
theorem lk_fields : (Try.prog.fieldsOf 30).toList.map (fun f => (f.type, f.offset, f.name)) = [(3, 0, "Seq"), (3, 1, "Ver"), (3, 2, "Holder"), (3, 3, "Value")] := by kernel_rfl
theorem lk_under : Try.prog.underlying 30 = some (.struct (Try.prog.fieldsOf 30)) := by kernel_rfl
theorem same_lk (a b : Lk) : ((a.s == b.s) && ((a.v == b.v) && ((a.h == b.h) && ((a.x == b.x) && true)))) = (a.l == b.l) := by
  rw [Bool.eq_iff_iff]
  simp only [Bool.and_eq_true, beq_iff_eq, and_true, Lk.l, List.cons.injEq]
theorem eql_lk_any (d : Nat) (a b : Lk) (w : World) : (Op.equalIn (d + 2) 30 (.agg (vals a.l).toArray) (.agg (vals b.l).toArray)).run Try.prog w = .ok (a.l == b.l) w := by
  have hst := run_equalIn_struct (P := Try.prog) w (d + 1) 30 (vals a.l).toArray (vals b.l).toArray lk_under (by kernel_rfl)
  have hi : ∀ x y : Int, (Op.equalIn (d + 1) 3 (.int .i64 x) (.int .i64 y)).run Try.prog w = .ok (x == y) w := fun x y => run_equalIn_int w d 3 .i64 .i64 x y Try.underlying3
  obtain ⟨f1, f2, f3, f4, hf, e1, e2, e3, e4⟩ := fields4n lk_fields
  injection e1 with e1a e1; injection e1 with e1b e1c
  injection e2 with e2a e2; injection e2 with e2b e2c
  injection e3 with e3a e3; injection e3 with e3b e3c
  injection e4 with e4a e4; injection e4 with e4b e4c
  have p0 : ∀ c : Lk, (part 3 (vals c.l).toArray 0).run Try.prog w = .ok (.int .i64 c.s) w := fun c => part_int c.l (by simp [Lk.len]) w
  have p1 : ∀ c : Lk, (part 3 (vals c.l).toArray 1).run Try.prog w = .ok (.int .i64 c.v) w := fun c => part_int c.l (by simp [Lk.len]) w
  have p2 : ∀ c : Lk, (part 3 (vals c.l).toArray 2).run Try.prog w = .ok (.int .i64 c.h) w := fun c => part_int c.l (by simp [Lk.len]) w
  have p3 : ∀ c : Lk, (part 3 (vals c.l).toArray 3).run Try.prog w = .ok (.int .i64 c.x) w := fun c => part_int c.l (by simp [Lk.len]) w
  rw [hst, hf, ← same_lk a b]
  clear hst hf
  refine eqField (by rw [e1c]; decide) (by rw [e1a, e1b]; exact p0 a) (by rw [e1a, e1b]; exact p0 b) (by rw [e1a]; exact hi _ _) ?_
  refine eqField (by rw [e2c]; decide) (by rw [e2a, e2b]; exact p1 a) (by rw [e2a, e2b]; exact p1 b) (by rw [e2a]; exact hi _ _) ?_
  refine eqField (by rw [e3c]; decide) (by rw [e3a, e3b]; exact p2 a) (by rw [e3a, e3b]; exact p2 b) (by rw [e3a]; exact hi _ _) ?_
  refine eqField (by rw [e4c]; decide) (by rw [e4a, e4b]; exact p3 a) (by rw [e4a, e4b]; exact p3 b) (by rw [e4a]; exact hi _ _) ?_
  simp [Op.eqFields]
theorem eql_lk (a b : Lk) (w : World) : (Op.equalIn 10000 30 (.agg (vals a.l).toArray) (.agg (vals b.l).toArray)).run Try.prog w = .ok (a.l == b.l) w := eql_lk_any 9998 a b w
theorem lk_guard : Try.prog.eqGuardType Try.prog.depth 30 = false := by kernel_rfl

/-! ### Locks that come in. -/
end Go.Proofs.Ytofngihdnjgmeaa
