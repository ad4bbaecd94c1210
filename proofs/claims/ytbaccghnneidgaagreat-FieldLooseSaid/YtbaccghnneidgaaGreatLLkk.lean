/- Plain arithmetic of layer 5 (lock): which lock is behind which, and what joining, writing and passing on tell. No program is spoken of here. Locks in memory: what the operations on them do; when two are the same; locks that come in. -/
import Derived.Test.YtbaccghnneidgaaGreatLBase0
import Derived.WalkKit
import Derived.ProofKit
import Derived.OpenShut
import Derived.ChangeOld
namespace Go.Proofs.YtbaccghnneidgaaGreat

structure Lk where
  s : Int
  v : Int
  h : Int
  x : Int
/-- Its four numbers, in their order. -/
def Lk.l (a : Lk) : List Int := [a.s, a.v, a.h, a.x]
theorem Lk.len (a : Lk) : a.l.length = 4 := rfl
theorem Lk.ext' {a b : Lk} (h1 : a.s = b.s) (h2 : a.v = b.v) (h3 : a.h = b.h) (h4 : a.x = b.x) : a = b := by
  cases a; cases b; simp_all
theorem Lk.inj {a b : Lk} (h : a.l = b.l) : a = b := by
  simp only [Lk.l, List.cons.injEq, and_true] at h
  exact Lk.ext' h.1 h.2.1 h.2.2.1 h.2.2.2
theorem Lk.same (a : Lk) : (a.l == a.l) = true := by simp
/-- The zero lock. -/
def z4 : Lk := ⟨0, 0, 0, 0⟩

def cmpI (x y : Int) : Int := if x < y then -1 else if y < x then 1 else 0
theorem cmpI_eq (x : Int) : cmpI x x = 0 := by simp [cmpI]
theorem cmpI_cases (x y : Int) : (x < y ∧ cmpI x y = -1) ∨ (y < x ∧ cmpI x y = 1) ∨ (x = y ∧ cmpI x y = 0) := by
  unfold cmpI
  split
  · omega
  · split <;> omega
def cmpL (a b : Lk) : Int := if a.s ≠ b.s then cmpI a.s b.s else if a.v ≠ b.v then cmpI a.v b.v else if a.h ≠ b.h then cmpI a.h b.h else cmpI a.x b.x
/-- b is behind a. -/
def ltL (a b : Lk) : Prop := a.s < b.s ∨ (a.s = b.s ∧ (a.v < b.v ∨ (a.v = b.v ∧ (a.h < b.h ∨ (a.h = b.h ∧ a.x < b.x)))))
theorem cmpL_cases (a b : Lk) : (ltL a b ∧ cmpL a b = -1) ∨ (ltL b a ∧ cmpL a b = 1) ∨ (a = b ∧ cmpL a b = 0) := by
  unfold cmpL ltL
  have h1 := cmpI_cases a.s b.s
  have h2 := cmpI_cases a.v b.v
  have h3 := cmpI_cases a.h b.h
  have h4 := cmpI_cases a.x b.x
  split
  · omega
  · split
    · omega
    · split
      · omega
      · by_cases hx : a.x = b.x
        · exact .inr (.inr ⟨Lk.ext' (by omega) (by omega) (by omega) hx, by omega⟩)
        · omega
theorem ltL_irrefl (a : Lk) : ¬ ltL a a := by unfold ltL; omega
theorem cmp_zero {a b : Lk} : cmpL a b = 0 ↔ a = b := by
  rcases cmpL_cases a b with ⟨h, e⟩ | ⟨h, e⟩ | ⟨rfl, e⟩
  · rw [e]; exact ⟨fun h' => by omega, fun h' => by subst h'; exact absurd h (ltL_irrefl _)⟩
  · rw [e]; exact ⟨fun h' => by omega, fun h' => by subst h'; exact absurd h (ltL_irrefl _)⟩
  · exact ⟨fun _ => rfl, fun _ => e⟩
/-- The one that is behind. -/
def joinK (a b : Lk) : Lk := if 0 < cmpL b a then b else a
/-! ### New, Right, Write, Pass. -/
def repBK (k : Int) : Bool := decide (0 ≤ k) && decide (k ≤ 15)
theorem repB_iffK {k : Int} : repBK k = true ↔ (0 ≤ k ∧ k ≤ 15) := by simp [repBK]
theorem repB_notK {k : Int} : repBK k = false ↔ (k < 0 ∨ 15 < k) := by rw [← Bool.not_eq_true, repB_iffK]; omega
def cntB (n : Int) : Bool := decide (0 ≤ n) && isB n
def rightL (a : Lk) : Bool := cntB a.s && cntB a.v && repBK a.h && isB a.x
def wrE (a : Lk) (k n : Int) : Int := if k ≠ a.h then 9 else if isB n = false then 2 else addE a.v 1
def wrA (a : Lk) (k n : Int) : Lk := if wrE a k n = 0 then ⟨a.s, a.v + 1, a.h, n⟩ else z4
def psE (a : Lk) (k t : Int) : Int := if k ≠ a.h then 9 else if repBK t = false then 1 else addE a.s 1
def psA (a : Lk) (k t : Int) : Lk := if psE a k t = 0 then ⟨a.s + 1, 0, t, a.x⟩ else z4
theorem addE_zero {n : Int} (h : addE n 1 = 0) : isB n = true ∧ isB (n + 1) = true ∧ addN n 1 = n + 1 := by
  cases hk : okB n 1 (n + 1) with
  | true => obtain ⟨h1, _, h3⟩ := okB_iff.1 hk; exact ⟨h1, h3, (addE_ok hk).2⟩
  | false => rw [(addE_no hk).1] at h; omega
theorem addE_two {n : Int} (h : addE n 1 ≠ 0) : addE n 1 = 2 := by
  cases hk : okB n 1 (n + 1) with
  | true => exact absurd (addE_ok hk).1 h
  | false => exact (addE_no hk).1
end Go.Proofs.YtbaccghnneidgaaGreat

namespace Go.Proofs.YtbaccghnneidgaaGreat
set_option maxRecDepth 100000
open Go.ChangeShapes Go.WideShapes Go.ChangeAt Go.RowKit

theorem lk_info : (Tryz.prog.info? 30).map (·.size) = some 4 := by kernel_rfl
theorem lk_zero : (Tryz.prog.info? 30).bind (·.zero) = some (.agg (vals (zer 4)).toArray) := by kernel_rfl
theorem lk_build (W : World) : (Instr.build 30 #[]).run Tryz.prog W = .ok (.agg (vals (zer 4)).toArray) W := by kernel_rfl
theorem lk_build3 (p q r : Int) (W : World) : (Instr.build 30 #[(0, .int .i64 p), (2, .int .i64 q), (3, .int .i64 r)]).run Tryz.prog W = .ok (.agg (vals (Lk.l ⟨p, 0, q, r⟩)).toArray) W := by kernel_rfl
theorem wp_build_three {o : Oper} {a : Act} {u : World} {K : Act → World → Prop} {Q : Exit → Act → World → Prop} (x y z : Operand) (ho : o.op = .build 30 #[(0, x), (2, y), (3, z)]) {p q r : Int}
    (hx : a.eval x = .int .i64 p) (hy : a.eval y = .int .i64 q) (hz : a.eval z = .int .i64 r)
    (h : K (a.put o.dst (.agg (vals (Lk.l ⟨p, 0, q, r⟩)).toArray)) u) : o.wp Tryz.prog a u K Q := by
  unfold Oper.wp execOp
  simp only [ho, List.map_toArray, List.map_cons, List.map_nil, hx, hy, hz, Sem.run_bind, Sem.run_pure, Result.andThen_ok, lk_build3]
  exact h
theorem build_threeK {ops : Array Oper} {rest : List Oper} {o : Oper} {a : Act} {u : World} {Q : Exit → Act → World → Prop} (hgd : o.guard = none) (x y z : Operand) (ho : o.op = .build 30 #[(0, x), (2, y), (3, z)]) {p q r : Int}
    (hx : a.eval x = .int .i64 p) (hy : a.eval y = .int .i64 q) (hz : a.eval z = .int .i64 r)
    (h : wpList Tryz.prog ops Q rest (a.put o.dst (.agg (vals (Lk.l ⟨p, 0, q, r⟩)).toArray)) u) : wpList Tryz.prog ops Q (o :: rest) a u :=
  wpList_plain hgd fun _K hK => wp_build_three x y z ho hx hy hz (hK _ _ h)

/-! ### Equality. -/
theorem fields4n {fs : List Field} {x1 x2 x3 x4 : TypeId × Nat × String} (h : fs.map (fun f => (f.type, f.offset, f.name)) = [x1, x2, x3, x4]) : ∃ f1 f2 f3 f4, fs = [f1, f2, f3, f4] ∧ (f1.type, f1.offset, f1.name) = x1 ∧ (f2.type, f2.offset, f2.name) = x2 ∧ (f3.type, f3.offset, f3.name) = x3 ∧ (f4.type, f4.offset, f4.name) = x4 := by
  match fs, h with
  | [f1, f2, f3, f4], h => exact ⟨f1, f2, f3, f4, rfl, by simpa using h⟩
theorem lk_fields : (Tryz.prog.fieldsOf 30).toList.map (fun f => (f.type, f.offset, f.name)) = [(3, 0, "Seq"), (3, 1, "Ver"), (3, 2, "Holder"), (3, 3, "Value")] := by kernel_rfl
theorem lk_under : Tryz.prog.underlying 30 = some (.struct (Tryz.prog.fieldsOf 30)) := by kernel_rfl
theorem same_lk (a b : Lk) : ((a.s == b.s) && ((a.v == b.v) && ((a.h == b.h) && ((a.x == b.x) && true)))) = (a.l == b.l) := by
  rw [Bool.eq_iff_iff]
  simp only [Bool.and_eq_true, beq_iff_eq, and_true, Lk.l, List.cons.injEq]
theorem eql_lk_any (d : Nat) (a b : Lk) (w : World) : (Op.equalIn (d + 2) 30 (.agg (vals a.l).toArray) (.agg (vals b.l).toArray)).run Tryz.prog w = .ok (a.l == b.l) w := by
  have hst := run_equalIn_struct (P := Tryz.prog) w (d + 1) 30 (vals a.l).toArray (vals b.l).toArray lk_under (by kernel_rfl)
  have hi : ∀ x y : Int, (Op.equalIn (d + 1) 3 (.int .i64 x) (.int .i64 y)).run Tryz.prog w = .ok (x == y) w := fun x y => run_equalIn_int w d 3 .i64 .i64 x y Tryz.underlying3
  obtain ⟨f1, f2, f3, f4, hf, e1, e2, e3, e4⟩ := fields4n lk_fields
  injection e1 with e1a e1; injection e1 with e1b e1c
  injection e2 with e2a e2; injection e2 with e2b e2c
  injection e3 with e3a e3; injection e3 with e3b e3c
  injection e4 with e4a e4; injection e4 with e4b e4c
  have p0 : ∀ c : Lk, (part 3 (vals c.l).toArray 0).run Tryz.prog w = .ok (.int .i64 c.s) w := fun c => part_int c.l (by simp [Lk.len]) w
  have p1 : ∀ c : Lk, (part 3 (vals c.l).toArray 1).run Tryz.prog w = .ok (.int .i64 c.v) w := fun c => part_int c.l (by simp [Lk.len]) w
  have p2 : ∀ c : Lk, (part 3 (vals c.l).toArray 2).run Tryz.prog w = .ok (.int .i64 c.h) w := fun c => part_int c.l (by simp [Lk.len]) w
  have p3 : ∀ c : Lk, (part 3 (vals c.l).toArray 3).run Tryz.prog w = .ok (.int .i64 c.x) w := fun c => part_int c.l (by simp [Lk.len]) w
  rw [hst, hf, ← same_lk a b]
  clear hst hf
  refine eqField (by rw [e1c]; decide) (by rw [e1a, e1b]; exact p0 a) (by rw [e1a, e1b]; exact p0 b) (by rw [e1a]; exact hi _ _) ?_
  refine eqField (by rw [e2c]; decide) (by rw [e2a, e2b]; exact p1 a) (by rw [e2a, e2b]; exact p1 b) (by rw [e2a]; exact hi _ _) ?_
  refine eqField (by rw [e3c]; decide) (by rw [e3a, e3b]; exact p2 a) (by rw [e3a, e3b]; exact p2 b) (by rw [e3a]; exact hi _ _) ?_
  refine eqField (by rw [e4c]; decide) (by rw [e4a, e4b]; exact p3 a) (by rw [e4a, e4b]; exact p3 b) (by rw [e4a]; exact hi _ _) ?_
  simp [Op.eqFields]
theorem eql_lk (a b : Lk) (w : World) : (Op.equalIn 10000 30 (.agg (vals a.l).toArray) (.agg (vals b.l).toArray)).run Tryz.prog w = .ok (a.l == b.l) w := eql_lk_any 9998 a b w
theorem lk_guard : Tryz.prog.eqGuardType Tryz.prog.depth 30 = false := by kernel_rfl

/-! ### Locks that come in. -/
end Go.Proofs.YtbaccghnneidgaaGreat
