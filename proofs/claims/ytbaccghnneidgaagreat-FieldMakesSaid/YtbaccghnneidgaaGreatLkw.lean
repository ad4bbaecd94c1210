/- Locks in memory: what the operations on them do; when two are the same; locks that come in. -/
import Derived.Test.YtbaccghnneidgaaGreatLk
import Derived.Test.YtbaccghnneidgaaGreatBase0
import Derived.WalkKit
import Derived.ProofKit
import Derived.OpenShut
import Derived.ChangeOld
namespace Go.Proofs.YtbaccghnneidgaaGreat
set_option maxRecDepth 100000
open Go.ChangeShapes Go.WideShapes Go.ChangeAt Go.RowKit

theorem lk_info : (Tryz.prog.info? 30).map (·.size) = some 4 := by kernel_rfl
theorem lk_zero : (Tryz.prog.info? 30).bind (·.zero) = some (.agg (vals (zer 4)).toArray) := by kernel_rfl
theorem lk_build (W : World) : (Instr.build 30 #[]).run Tryz.prog W = .ok (.agg (vals (zer 4)).toArray) W := by kernel_rfl
theorem zer4 : zer 4 = z4.l := rfl
theorem lk_build2 (p q : Int) (W : World) : (Instr.build 30 #[(2, .int .i64 p), (3, .int .i64 q)]).run Tryz.prog W = .ok (.agg (vals (Lk.l ⟨0, 0, p, q⟩)).toArray) W := by kernel_rfl
theorem lk_build3 (p q r : Int) (W : World) : (Instr.build 30 #[(0, .int .i64 p), (2, .int .i64 q), (3, .int .i64 r)]).run Tryz.prog W = .ok (.agg (vals (Lk.l ⟨p, 0, q, r⟩)).toArray) W := by kernel_rfl
theorem build_two {ops : Array Oper} {rest : List Oper} {o : Oper} {a : Act} {u : World} {Q : Exit → Act → World → Prop} (hgd : o.guard = none) (x y : Operand) (ho : o.op = .build 30 #[(2, x), (3, y)]) {p q : Int}
    (hx : a.eval x = .int .i64 p) (hy : a.eval y = .int .i64 q)
    (h : wpList Tryz.prog ops Q rest (a.put o.dst (.agg (vals (Lk.l ⟨0, 0, p, q⟩)).toArray)) u) : wpList Tryz.prog ops Q (o :: rest) a u :=
  wpList_plain hgd fun K hK => by
    unfold Oper.wp execOp
    simp only [ho, List.map_toArray, List.map_cons, List.map_nil, hx, hy, Sem.run_bind, Sem.run_pure, Result.andThen_ok, lk_build2]
    exact hK _ _ h
theorem wp_build_three {o : Oper} {a : Act} {u : World} {K : Act → World → Prop} {Q : Exit → Act → World → Prop} (x y z : Operand) (ho : o.op = .build 30 #[(0, x), (2, y), (3, z)]) {p q r : Int}
    (hx : a.eval x = .int .i64 p) (hy : a.eval y = .int .i64 q) (hz : a.eval z = .int .i64 r)
    (h : K (a.put o.dst (.agg (vals (Lk.l ⟨p, 0, q, r⟩)).toArray)) u) : o.wp Tryz.prog a u K Q := by
  unfold Oper.wp execOp
  simp only [ho, List.map_toArray, List.map_cons, List.map_nil, hx, hy, hz, Sem.run_bind, Sem.run_pure, Result.andThen_ok, lk_build3]
  exact h
theorem build_threeK {ops : Array Oper} {rest : List Oper} {o : Oper} {a : Act} {u : World} {Q : Exit → Act → World → Prop} (hgd : o.guard = none) (x y z : Operand) (ho : o.op = .build 30 #[(0, x), (2, y), (3, z)]) {p q r : Int}
    (hx : a.eval x = .int .i64 p) (hy : a.eval y = .int .i64 q) (hz : a.eval z = .int .i64 r)
    (h : wpList Tryz.prog ops Q rest (a.put o.dst (.agg (vals (Lk.l ⟨p, 0, q, r⟩)).toArray)) u) : wpList Tryz.prog ops Q (o :: rest) a u :=
  wpList_plain hgd fun _K hK => wp_build_three x y z ho hx hy hz (hK _ _ h)

/-! ### Equality. -/
theorem fields4n {fs : List Field} {x1 x2 x3 x4 : TypeId × Nat × String} (h : fs.map (fun f => (f.type, f.offset, f.name)) = [x1, x2, x3, x4]) : ∃ f1 f2 f3 f4, fs = [f1, f2, f3, f4] ∧ (f1.type, f1.offset, f1.name) = x1 ∧ (f2.type, f2.offset, f2.name) = x2 ∧ (f3.type, f3.offset, f3.name) = x3 ∧ (f4.type, f4.offset, f4.name) = x4 := by
  match fs, h with
  | [f1, f2, f3, f4], h => exact ⟨f1, f2, f3, f4, rfl, by simpa using h⟩
theorem lk_fields : (Tryz.prog.fieldsOf 30).toList.map (fun f => (f.type, f.offset, f.name)) = [(3, 0, "Seq"), (3, 1, "Ver"), (3, 2, "Holder"), (3, 3, "Value")] := by kernel_rfl
theorem lk_under : Tryz.prog.underlying 30 = some (.struct (Tryz.prog.fieldsOf 30)) := by kernel_rfl
theorem same_lk (a b : Lk) : ((a.s == b.s) && ((a.v == b.v) && ((a.h == b.h) && ((a.x == b.x) && true)))) = (a.l == b.l) := by
  rw [Bool.eq_iff_iff]
  simp only [Bool.and_eq_true, beq_iff_eq, and_true, Lk.l, List.cons.injEq]
theorem eql_lk_any (d : Nat) (a b : Lk) (w : World) : (Op.equalIn (d + 2) 30 (.agg (vals a.l).toArray) (.agg (vals b.l).toArray)).run Tryz.prog w = .ok (a.l == b.l) w := by
  have hst := run_equalIn_struct (P := Tryz.prog) w (d + 1) 30 (vals a.l).toArray (vals b.l).toArray lk_under (by kernel_rfl)
  have hi : ∀ x y : Int, (Op.equalIn (d + 1) 3 (.int .i64 x) (.int .i64 y)).run Tryz.prog w = .ok (x == y) w := fun x y => run_equalIn_int w d 3 .i64 .i64 x y Tryz.underlying3
  obtain ⟨f1, f2, f3, f4, hf, e1, e2, e3, e4⟩ := fields4n lk_fields
  injection e1 with e1a e1; injection e1 with e1b e1c
  injection e2 with e2a e2; injection e2 with e2b e2c
  injection e3 with e3a e3; injection e3 with e3b e3c
  injection e4 with e4a e4; injection e4 with e4b e4c
  have p0 : ∀ c : Lk, (part 3 (vals c.l).toArray 0).run Tryz.prog w = .ok (.int .i64 c.s) w := fun c => part_int c.l (by simp [Lk.len]) w
  have p1 : ∀ c : Lk, (part 3 (vals c.l).toArray 1).run Tryz.prog w = .ok (.int .i64 c.v) w := fun c => part_int c.l (by simp [Lk.len]) w
  have p2 : ∀ c : Lk, (part 3 (vals c.l).toArray 2).run Tryz.prog w = .ok (.int .i64 c.h) w := fun c => part_int c.l (by simp [Lk.len]) w
  have p3 : ∀ c : Lk, (part 3 (vals c.l).toArray 3).run Tryz.prog w = .ok (.int .i64 c.x) w := fun c => part_int c.l (by simp [Lk.len]) w
  rw [hst, hf, ← same_lk a b]
  clear hst hf
  refine eqField (by rw [e1c]; decide) (by rw [e1a, e1b]; exact p0 a) (by rw [e1a, e1b]; exact p0 b) (by rw [e1a]; exact hi _ _) ?_
  refine eqField (by rw [e2c]; decide) (by rw [e2a, e2b]; exact p1 a) (by rw [e2a, e2b]; exact p1 b) (by rw [e2a]; exact hi _ _) ?_
  refine eqField (by rw [e3c]; decide) (by rw [e3a, e3b]; exact p2 a) (by rw [e3a, e3b]; exact p2 b) (by rw [e3a]; exact hi _ _) ?_
  refine eqField (by rw [e4c]; decide) (by rw [e4a, e4b]; exact p3 a) (by rw [e4a, e4b]; exact p3 b) (by rw [e4a]; exact hi _ _) ?_
  simp [Op.eqFields]
theorem eql_lk (a b : Lk) (w : World) : (Op.equalIn 10000 30 (.agg (vals a.l).toArray) (.agg (vals b.l).toArray)).run Tryz.prog w = .ok (a.l == b.l) w := eql_lk_any 9998 a b w
theorem lk_guard : Tryz.prog.eqGuardType Tryz.prog.depth 30 = false := by kernel_rfl

/-! ### Locks that come in. -/
theorem open_lk {H : Type} {enc : TypeId × Value → H} {W : World} {b b' : Nat} {sp : Nat → Bool} {held : Bool} {v : Value} {d : DataW H} {p : List MemPlace} (hval : Value.okWide Tryz.prog W .any b' 30 v)
    (h : DataW.Trod enc Tryz.prog W b sp held 30 v d p) : ∃ a : Lk, v = .agg (vals a.l).toArray := by
  have c0 : Tryz.prog.cellsOf 3 = 1 := by kernel_rfl
  have c3 : Tryz.prog.cellsOf 30 = 4 := by kernel_rfl
  obtain ⟨cs, rfl, hsz, _⟩ : ∃ cs, v = .agg cs ∧ cs.size = Tryz.prog.cellsOf 30 ∧ Row.okWide Tryz.prog W .any b' 30 cs := by
    simpa [Value.okWide, lk_under] using hval
  obtain ⟨l⟩ := cs
  rw [c3] at hsz
  have hsz : l.length = 4 := by simpa using hsz
  obtain ⟨fuel, hf⟩ := h
  obtain ⟨xs, m, _, _, _, hn, hel⟩ := DataW.trod_struct lk_under hf
  obtain ⟨f1, f2, f3, f4, hfs, e1, e2, e3, e4⟩ := fields4n lk_fields
  injection e1 with e1a e1; injection e1 with e1b e1c
  injection e2 with e2a e2; injection e2 with e2b e2c
  injection e3 with e3a e3; injection e3 with e3b e3c
  injection e4 with e4a e4; injection e4 with e4b e4c
  have hfs' : Tryz.prog.fieldsOf 30 = #[f1, f2, f3, f4] := by apply Array.toList_inj.1; rw [hfs]
  rw [hfs'] at hel hn
  have hn4 : xs.length = 4 := by simpa using hn
  have d0 := hel 0 f1 rfl
  have d1 := hel 1 f2 rfl
  have d2 := hel 2 f3 rfl
  have d3 := hel 3 f4 rfl
  rw [e1a, e1b, c0, List.getElem?_eq_getElem (show 0 < xs.length by omega)] at d0
  rw [e2a, e2b, c0, List.getElem?_eq_getElem (show 1 < xs.length by omega)] at d1
  rw [e3a, e3b, c0, List.getElem?_eq_getElem (show 2 < xs.length by omega)] at d2
  rw [e4a, e4b, c0, List.getElem?_eq_getElem (show 3 < xs.length by omega)] at d3
  obtain ⟨n0, h0, _, _⟩ := DataW.trod_int Tryz.underlying3 d0
  obtain ⟨n1, h1, _, _⟩ := DataW.trod_int Tryz.underlying3 d1
  obtain ⟨n2, h2, _, _⟩ := DataW.trod_int Tryz.underlying3 d2
  obtain ⟨n3, h3, _, _⟩ := DataW.trod_int Tryz.underlying3 d3
  match l, hsz with
  | [a0, a1, a2, a3], _ =>
    simp [Value.cells] at h0 h1 h2 h3
    exact ⟨⟨n0, n1, n2, n3⟩, by rw [h0, h1, h2, h3]; rfl⟩
end Go.Proofs.YtbaccghnneidgaaGreat
