/- Holds in memory: what the operations on them do; when two are the same; slices of holds that come in, and rows of holds that a call makes. -/
import Derived.Test.YtbaccghnneidgaaGreatHo
import Derived.Test.YtbaccghnneidgaaGreatBase0
import Derived.WalkKit
import Derived.ProofKit
import Derived.OpenShut
import Derived.ChangeOld
import Derived.Deep.Slices
import Derived.ChangeSlices
import Derived.Laws.AppendOwn
import Derived.Laws.OwnMore
namespace Go.Proofs.YtbaccghnneidgaaGreat
set_option maxRecDepth 100000
open Go.ChangeShapes Go.WideShapes Go.ChangeAt Go.RowKit

theorem h_info : (Tryz.prog.info? 81).map (·.size) = some 5 := by kernel_rfl
theorem h_zero : (Tryz.prog.info? 81).bind (·.zero) = some (.agg (vals (zer 5)).toArray) := by kernel_rfl
theorem h_build (W : World) : (Instr.build 81 #[]).run Tryz.prog W = .ok (.agg (vals (zer 5)).toArray) W := by kernel_rfl
theorem zer5 : zer 5 = z5.l := rfl
theorem h_build5 (p q r s t : Int) (W : World) : (Instr.build 81 #[(0, .int .i64 p), (1, .int .i64 q), (2, .int .i64 r), (3, .int .i64 s), (4, .int .i64 t)]).run Tryz.prog W = .ok (.agg (vals (Ho.l ⟨p, q, r, s, t⟩)).toArray) W := by kernel_rfl
theorem build_five {ops : Array Oper} {rest : List Oper} {o : Oper} {a : Act} {u : World} {Q : Exit → Act → World → Prop} (hgd : o.guard = none) (x0 x1 x2 x3 x4 : Operand) (ho : o.op = .build 81 #[(0, x0), (1, x1), (2, x2), (3, x3), (4, x4)]) {p q r s t : Int}
    (h0 : a.eval x0 = .int .i64 p) (h1 : a.eval x1 = .int .i64 q) (h2 : a.eval x2 = .int .i64 r) (h3 : a.eval x3 = .int .i64 s) (h4 : a.eval x4 = .int .i64 t)
    (h : wpList Tryz.prog ops Q rest (a.put o.dst (.agg (vals (Ho.l ⟨p, q, r, s, t⟩)).toArray)) u) : wpList Tryz.prog ops Q (o :: rest) a u :=
  wpList_plain hgd fun K hK => by
    unfold Oper.wp execOp
    simp only [ho, List.map_toArray, List.map_cons, List.map_nil, h0, h1, h2, h3, h4, Sem.run_bind, Sem.run_pure, Result.andThen_ok, h_build5]
    exact hK _ _ h
theorem Ho.g0 (a : Ho) : a.l.getD 0 0 = a.r := rfl
theorem Ho.p0 (a : Ho) : 0 < a.l.length := by simp [Ho.len]
theorem Ho.g1 (a : Ho) : a.l.getD 1 0 = a.n := rfl
theorem Ho.p1 (a : Ho) : 1 < a.l.length := by simp [Ho.len]
theorem Ho.g2 (a : Ho) : a.l.getD 2 0 = a.a := rfl
theorem Ho.p2 (a : Ho) : 2 < a.l.length := by simp [Ho.len]
theorem Ho.g3 (a : Ho) : a.l.getD 3 0 = a.d := rfl
theorem Ho.p3 (a : Ho) : 3 < a.l.length := by simp [Ho.len]
theorem Ho.g4 (a : Ho) : a.l.getD 4 0 = a.s := rfl
theorem Ho.p4 (a : Ho) : 4 < a.l.length := by simp [Ho.len]

/-! ### Equality. -/
theorem fields5n {fs : List Field} {x1 x2 x3 x4 x5 : TypeId × Nat × String} (h : fs.map (fun f => (f.type, f.offset, f.name)) = [x1, x2, x3, x4, x5]) : ∃ f1 f2 f3 f4 f5, fs = [f1, f2, f3, f4, f5] ∧ (f1.type, f1.offset, f1.name) = x1 ∧ (f2.type, f2.offset, f2.name) = x2 ∧ (f3.type, f3.offset, f3.name) = x3 ∧ (f4.type, f4.offset, f4.name) = x4 ∧ (f5.type, f5.offset, f5.name) = x5 := by
  match fs, h with
  | [f1, f2, f3, f4, f5], h => exact ⟨f1, f2, f3, f4, f5, rfl, by simpa using h⟩
theorem h_fields : (Tryz.prog.fieldsOf 81).toList.map (fun f => (f.type, f.offset, f.name)) = [(3, 0, "Replica"), (3, 1, "Number"), (3, 2, "Amount"), (3, 3, "Due"), (3, 4, "State")] := by kernel_rfl
theorem h_under : Tryz.prog.underlying 81 = some (.struct (Tryz.prog.fieldsOf 81)) := by kernel_rfl
theorem same_ho (a b : Ho) : ((a.r == b.r) && ((a.n == b.n) && ((a.a == b.a) && ((a.d == b.d) && ((a.s == b.s) && true))))) = (a.l == b.l) := by
  rw [Bool.eq_iff_iff]
  simp only [Bool.and_eq_true, beq_iff_eq, and_true, Ho.l, List.cons.injEq]
theorem eql_ho_any (d : Nat) (a b : Ho) (w : World) : (Op.equalIn (d + 2) 81 (.agg (vals a.l).toArray) (.agg (vals b.l).toArray)).run Tryz.prog w = .ok (a.l == b.l) w := by
  have hst := run_equalIn_struct (P := Tryz.prog) w (d + 1) 81 (vals a.l).toArray (vals b.l).toArray h_under (by kernel_rfl)
  have hi : ∀ x y : Int, (Op.equalIn (d + 1) 3 (.int .i64 x) (.int .i64 y)).run Tryz.prog w = .ok (x == y) w := fun x y => run_equalIn_int w d 3 .i64 .i64 x y Tryz.underlying3
  obtain ⟨f1, f2, f3, f4, f5, hf, e1, e2, e3, e4, e5⟩ := fields5n h_fields
  injection e1 with e1a e1; injection e1 with e1b e1c
  injection e2 with e2a e2; injection e2 with e2b e2c
  injection e3 with e3a e3; injection e3 with e3b e3c
  injection e4 with e4a e4; injection e4 with e4b e4c
  injection e5 with e5a e5; injection e5 with e5b e5c
  have p0 : ∀ c : Ho, (part 3 (vals c.l).toArray 0).run Tryz.prog w = .ok (.int .i64 c.r) w := fun c => part_int c.l (by simp [Ho.len]) w
  have p1 : ∀ c : Ho, (part 3 (vals c.l).toArray 1).run Tryz.prog w = .ok (.int .i64 c.n) w := fun c => part_int c.l (by simp [Ho.len]) w
  have p2 : ∀ c : Ho, (part 3 (vals c.l).toArray 2).run Tryz.prog w = .ok (.int .i64 c.a) w := fun c => part_int c.l (by simp [Ho.len]) w
  have p3 : ∀ c : Ho, (part 3 (vals c.l).toArray 3).run Tryz.prog w = .ok (.int .i64 c.d) w := fun c => part_int c.l (by simp [Ho.len]) w
  have p4 : ∀ c : Ho, (part 3 (vals c.l).toArray 4).run Tryz.prog w = .ok (.int .i64 c.s) w := fun c => part_int c.l (by simp [Ho.len]) w
  rw [hst, hf, ← same_ho a b]
  clear hst hf
  refine eqField (by rw [e1c]; decide) (by rw [e1a, e1b]; exact p0 a) (by rw [e1a, e1b]; exact p0 b) (by rw [e1a]; exact hi _ _) ?_
  refine eqField (by rw [e2c]; decide) (by rw [e2a, e2b]; exact p1 a) (by rw [e2a, e2b]; exact p1 b) (by rw [e2a]; exact hi _ _) ?_
  refine eqField (by rw [e3c]; decide) (by rw [e3a, e3b]; exact p2 a) (by rw [e3a, e3b]; exact p2 b) (by rw [e3a]; exact hi _ _) ?_
  refine eqField (by rw [e4c]; decide) (by rw [e4a, e4b]; exact p3 a) (by rw [e4a, e4b]; exact p3 b) (by rw [e4a]; exact hi _ _) ?_
  refine eqField (by rw [e5c]; decide) (by rw [e5a, e5b]; exact p4 a) (by rw [e5a, e5b]; exact p4 b) (by rw [e5a]; exact hi _ _) ?_
  simp [Op.eqFields]
theorem eql_ho (a b : Ho) (w : World) : (Op.equalIn 10000 81 (.agg (vals a.l).toArray) (.agg (vals b.l).toArray)).run Tryz.prog w = .ok (a.l == b.l) w := eql_ho_any 9998 a b w
theorem h_guard : Tryz.prog.eqGuardType Tryz.prog.depth 81 = false := by kernel_rfl

/-! ### Slices of holds. -/
/-- The numbers of holds, one behind the other. -/
def flat (hs : List Ho) : List Int := hs.flatMap Ho.l
theorem flat_length (hs : List Ho) : (flat hs).length = hs.length * 5 := by
  induction hs with
  | nil => rfl
  | cons h t ih => simp only [flat, List.flatMap_cons, List.length_append, List.length_cons, Ho.len] at *; omega
theorem flat_append (xs ys : List Ho) : flat (xs ++ ys) = flat xs ++ flat ys := by simp [flat]
theorem flat_seg : ∀ (hs : List Ho) (k : Nat), k < hs.length → seg (flat hs) (k * 5) 5 = (hs.getD k z5).l
  | h :: t, 0, _ => rfl
  | h :: t, k + 1, hk => by
    have ih := flat_seg t k (by simpa using hk)
    have e : flat (h :: t) = h.l ++ flat t := rfl
    rw [e, seg, show (k + 1) * 5 = h.l.length + k * 5 by rw [Ho.len]; omega, List.drop_append]
    rw [List.drop_of_length_le (by omega), List.nil_append, Nat.add_sub_cancel_left]
    simpa [seg] using ih
theorem flat_get {hs : List Ho} {k j : Nat} (hk : k < hs.length) (hj : j < 5) : (flat hs).getD (k * 5 + j) 0 = (hs.getD k z5).l.getD j 0 := by
  rw [← flat_seg hs k hk, seg_get hj]
theorem flat_set : ∀ (hs : List Ho) (k : Nat) (z : Int), k < hs.length → (flat hs).set (k * 5 + 4) z = flat (hs.set k ⟨(hs.getD k z5).r, (hs.getD k z5).n, (hs.getD k z5).a, (hs.getD k z5).d, z⟩)
  | h :: t, 0, z, _ => rfl
  | h :: t, k + 1, z, hk => by
    have ih := flat_set t k z (by simpa using hk)
    have e : ∀ x (y : List Ho), flat (x :: y) = x.l ++ flat y := fun _ _ => rfl
    rw [List.set_cons_succ, e, e, show (k + 1) * 5 + 4 = h.l.length + (k * 5 + 4) by rw [Ho.len]; omega, List.set_append_right _ _ (by omega), Nat.add_sub_cancel_left, ih]
    rfl
/-- A slice of holds, as it reads. -/
def Row (w : World) (A : Option Addr) (n : Nat) (hs : List Ho) : Prop :=
  hs.length = n ∧ n ≤ 1000 ∧ (n = 0 ∨ ∃ b off : Nat, A = some ⟨b, off, none⟩ ∧ ∀ k, k < n → w.rangeAt b (off + k * 5) (vals (hs.getD k z5).l))
theorem range5 {w : World} {b o : Nat} {h : Ho} (hr : w.rangeAt b o (vals h.l)) : w.cell? ⟨b, o, none⟩ = some (.int .i64 h.r) ∧ w.cell? ⟨b, o + 1, none⟩ = some (.int .i64 h.n) ∧ w.cell? ⟨b, o + 2, none⟩ = some (.int .i64 h.a) ∧ w.cell? ⟨b, o + 3, none⟩ = some (.int .i64 h.d) ∧ w.cell? ⟨b, o + 4, none⟩ = some (.int .i64 h.s) :=
  ⟨hr 0 _ rfl, hr 1 _ rfl, hr 2 _ rfl, hr 3 _ rfl, hr 4 _ rfl⟩
theorem range_lt {w : World} {b o : Nat} {h : Ho} (hr : w.rangeAt b o (vals h.l)) : b < w.heap.size := cell_lt (range5 hr).1
theorem Row.below {w w' : World} {A : Option Addr} {n : Nat} {hs : List Ho} (h : Row w A n hs) {B : Nat} (hb : Below B w w') (hB : w.heap.size ≤ B) : Row w' A n hs := by
  obtain ⟨h1, h2, h3⟩ := h
  refine ⟨h1, h2, ?_⟩
  rcases h3 with h0 | ⟨b, off, rfl, hc⟩
  · exact .inl h0
  · exact .inr ⟨b, off, rfl, fun k hk => range_below (hc k hk) hb (Nat.lt_of_lt_of_le (range_lt (hc k hk)) hB)⟩
theorem Row.call {w w' : World} {A : Option Addr} {n : Nat} {hs : List Ho} (h : Row w A n hs) (hb : Below w.heap.size w w') : Row w' A n hs := h.below hb (Nat.le_refl _)
theorem Row.at {w : World} {A : Option Addr} {n : Nat} {hs : List Ho} (h : Row w A n hs) {k : Nat} (hk : k < n) : ∃ b off : Nat, A = some ⟨b, off, none⟩ ∧ ∀ j, j < n → w.rangeAt b (off + j * 5) (vals (hs.getD j z5).l) := by
  rcases h.2.2 with h0 | h0
  · omega
  · exact h0
theorem Row.nil (w : World) (A : Option Addr) : Row w A 0 [] := ⟨rfl, by omega, .inl rfl⟩
/-- The cells that a slice of holds reads. -/
theorem Row.cells {w : World} {b off n : Nat} {hs : List Ho} (hl : hs.length = n) (h : ∀ k, k < n → w.rangeAt b (off + k * 5) (vals (hs.getD k z5).l)) : ∀ j u, (vals (flat hs))[j]? = some u → w.cell? ⟨b, off + j, none⟩ = some u := by
  intro j u hu
  obtain ⟨hj, rfl⟩ := vals_at hu
  rw [flat_length, hl] at hj
  have hk : j / 5 < n := by omega
  have := h (j / 5) hk (j % 5) (.int .i64 ((hs.getD (j / 5) z5).l.getD (j % 5) 0)) (vals_get (by rw [Ho.len]; omega))
  rw [← flat_get (by omega) (by omega), show j / 5 * 5 + j % 5 = j by omega, show off + j / 5 * 5 + j % 5 = off + j by omega] at this
  exact this
/-- A part of a slice. -/
theorem Row.sub {w : World} {b off n : Nat} {hs : List Ho} (_hl : hs.length = n) (h : ∀ k, k < n → w.rangeAt b (off + k * 5) (vals (hs.getD k z5).l)) {i : Nat} : ∀ k, k < n - i → w.rangeAt b (off + i * 5 + k * 5) (vals ((hs.drop i).getD k z5).l) := by
  intro k hk
  have := h (i + k) (by omega)
  rw [show off + (i + k) * 5 = off + i * 5 + k * 5 by omega] at this
  simpa [List.getD, List.getElem?_drop] using this

/-! ### Rows that a call makes. -/
def Own (w : World) (base : Nat) (v : Value) (hs : List Ho) : Prop := w.ownsRow base 81 5 v hs.length (vals (flat hs))
theorem own_baseH {w : World} {base : Nat} {e : TypeId} {s : Nat} {v : Value} {n : Nat} {xs : List Value} (h : w.ownsRow base e s v n xs) (k : Nat) (hk : v.ownBlock = some k) : base ≤ k := (h.lt k hk).1
theorem own_belowH {w w' : World} {base : Nat} {e : TypeId} {s : Nat} {v : Value} {n : Nat} {xs : List Value} (h : w.ownsRow base e s v n xs) (hb : Below w.heap.size w w') : w'.ownsRow base e s v n xs := by
  refine ⟨h.1, ?_⟩
  rcases h.2 with ⟨h1, h2⟩ | ⟨g, cap, cur, h1, h2, h3, h4⟩
  · exact .inl ⟨h1, h2⟩
  · refine .inr ⟨g, cap, cur, h1, h2, ?_, h4⟩
    rw [hb.block g (Array.getElem?_eq_some_iff.1 h3).1]; exact h3
theorem Own.call {w w' : World} {base : Nat} {v : Value} {hs : List Ho} (h : Own w base v hs) (hb : Below w.heap.size w w') : Own w' base v hs := own_belowH h hb
theorem Own.mono {w : World} {base base' : Nat} {v : Value} {hs : List Ho} (h : Own w base v hs) (hb : base' ≤ base) : Own w base' v hs := by
  refine ⟨h.1, ?_⟩
  rcases h.2 with h | ⟨g, cap, cur, h1, h2, h3⟩
  · exact .inl h
  · exact .inr ⟨g, cap, cur, h1, Nat.le_trans hb h2, h3⟩
theorem Own.nil (w : World) (base : Nat) : Own w base (.slice none 0 0) [] := World.ownsRow_nil w base _ _
/-- It is there. -/
theorem Own.slice {w : World} {base : Nat} {v : Value} {hs : List Ho} (h : Own w base v hs) : ∃ A c, v = .slice A hs.length c := by
  rcases h.2 with ⟨rfl, h2⟩ | ⟨g, cap, cur, rfl, _⟩
  · exact ⟨none, 0, by rw [h2]⟩
  · exact ⟨_, cap, rfl⟩
theorem Own.at {w : World} {base : Nat} {v : Value} {hs : List Ho} (h : Own w base v hs) (hn : 0 < hs.length) : ∃ g cap, v = .slice (some ⟨g, 0, none⟩) hs.length cap ∧ base ≤ g ∧ g < w.heap.size := by
  rcases h.2 with ⟨rfl, h2⟩ | ⟨g, cap, cur, rfl, h1, h2, _⟩
  · omega
  · exact ⟨g, cap, rfl, h1, (Array.getElem?_eq_some_iff.1 h2).1⟩
theorem Own.range {w : World} {base g cap : Nat} {hs : List Ho} {n : Nat} (h : Own w base (.slice (some ⟨g, 0, none⟩) n cap) hs) {k : Nat} (hk : k < hs.length) : w.rangeAt g (k * 5) (vals (hs.getD k z5).l) := by
  have hl : n = hs.length := by
    rcases h.2 with ⟨h1, _⟩ | ⟨_, _, _, h1, _⟩
    · cases h1
    · injection h1
  subst hl
  intro j u hu
  obtain ⟨hj, rfl⟩ := vals_at hu
  rw [Ho.len] at hj
  rw [World.ownsRow.cellAt h _ (by omega), ← flat_get hk hj, vals_get (by rw [flat_length]; omega)]
theorem Own.row {w : World} {base : Nat} {A : Option Addr} {n c : Nat} {hs : List Ho} (h : Own w base (.slice A n c) hs) (hn : hs.length ≤ 1000) : Row w A n hs := by
  obtain ⟨A', c', e⟩ := h.slice
  injection e with e1 e2 e3
  subst e2
  rcases Nat.eq_zero_or_pos hs.length with h0 | h0
  · exact ⟨rfl, hn, .inl h0⟩
  · obtain ⟨g, cap, e, _⟩ := h.at h0
    injection e with e4 e5 e6
    subst e4
    exact ⟨rfl, hn, .inr ⟨g, 0, rfl, fun k hk => by rw [Nat.zero_add]; exact h.range hk⟩⟩
theorem Own.frozen {w : World} {base g cap n : Nat} {hs : List Ho} (h : Own w base (.slice (some ⟨g, 0, none⟩) n cap) hs) (j : Nat) : w.frozen? ⟨g, j, none⟩ = false := by
  have hl : n = hs.length := by
    rcases h.2 with ⟨h1, _⟩ | ⟨_, _, _, h1, _⟩
    · cases h1
    · injection h1
  subst hl
  exact World.ownsRow.frozenAt h j
/-- The state of one is written. -/
theorem Own.state {w : World} {base g cap n : Nat} {hs : List Ho} (h : Own w base (.slice (some ⟨g, 0, none⟩) n cap) hs) {k : Nat} (hk : k < hs.length) (z : Int) :
    Own (w.setCell ⟨g, k * 5 + 4, none⟩ (.int .i64 z)) base (.slice (some ⟨g, 0, none⟩) n cap) (hs.set k ⟨(hs.getD k z5).r, (hs.getD k z5).n, (hs.getD k z5).a, (hs.getD k z5).d, z⟩) := by
  have hl : n = hs.length := by
    rcases h.2 with ⟨h1, _⟩ | ⟨_, _, _, h1, _⟩
    · cases h1
    · injection h1
  subst hl
  have := World.ownsRow.stored h (k * 5 + 4) (.int .i64 z)
  rw [vals_set, flat_set hs k z hk] at this
  unfold Own
  rw [List.length_set]
  exact this.1

/-- Below w's end all is as it was; these blocks of the call's own lie there, and this row of its own, apart from them. -/
structure KeepH (w : World) (l : List (Nat × TypeId × List Int)) (v : Value) (hs : List Ho) (u : World) : Prop where
  keep : KeepR w l u
  own : Own u w.heap.size v hs
  apart : ∀ x ∈ l, v.ownBlock ≠ some x.1
theorem KeepH.start (w : World) : KeepH w [] (.slice none 0 0) [] w := ⟨KeepR.start w, Own.nil _ _, by simp⟩
theorem KeepH.of_keep {w u : World} {l : List (Nat × TypeId × List Int)} (h : KeepR w l u) : KeepH w l (.slice none 0 0) [] u := ⟨h, Own.nil _ _, by simp [Value.ownBlock]⟩
theorem KeepH.of_alloc {w u u' : World} {l : List (Nat × TypeId × List Int)} {v : Value} {hs : List Ho} (h : KeepH w l v hs u) {b : Nat} {t : TypeId} {zs : List Int} (hn : b = u.heap.size) (hk : KeepR w ((b, t, zs) :: l) u') (hb : Below u.heap.size u u') : KeepH w ((b, t, zs) :: l) v hs u' := by
  refine ⟨hk, h.own.call hb, fun x hx => ?_⟩
  rcases List.mem_cons.1 hx with rfl | hx
  · intro e
    have := (World.ownsRow.lt h.own _ e).2
    simp only at this
    omega
  · exact h.apart x hx
theorem KeepH.of_store {w u u' : World} {l : List (Nat × TypeId × List Int)} {v : Value} {hs : List Ho} (h : KeepH w l v hs u) (i : Nat) {b : Nat} {t : TypeId} {R S : List Int} (hi : l[i]? = some (b, t, R)) (hk : KeepR w (l.set i (b, t, S)) u') (he : ∀ k, k ≠ b → u'.heap[k]? = u.heap[k]?) : KeepH w (l.set i (b, t, S)) v hs u' := by
  have hb := h.apart _ (List.mem_of_getElem? hi)
  refine ⟨hk, ⟨h.own.1, ?_⟩, fun x hx => ?_⟩
  · rcases h.own.2 with h1 | ⟨g, cap, cur, rfl, h1, h2, h3⟩
    · exact .inl h1
    · refine .inr ⟨g, cap, cur, rfl, h1, ?_, h3⟩
      rw [he g (by simpa [Value.ownBlock] using hb)]; exact h2
  · rcases List.mem_or_eq_of_mem_set hx with hx | rfl
    · exact h.apart x hx
    · exact hb
theorem KeepH.call {w u u' : World} {l : List (Nat × TypeId × List Int)} {v : Value} {hs : List Ho} (h : KeepH w l v hs u) (hb : Below u.heap.size u u') : KeepH w l v hs u' := ⟨h.keep.call hb, h.own.call hb, h.apart⟩
theorem KeepH.drew {w u : World} {l : List (Nat × TypeId × List Int)} {v : Value} {hs : List Ho} (h : KeepH w l v hs u) : KeepH w l v hs u.drew := ⟨h.keep.drew, h.own, h.apart⟩
theorem KeepH.tail {w u : World} {x : Nat × TypeId × List Int} {l : List (Nat × TypeId × List Int)} {v : Value} {hs : List Ho} (h : KeepH w (x :: l) v hs u) : KeepH w l v hs u := ⟨h.keep.tail, h.own, fun y hy => h.apart y (List.mem_cons_of_mem _ hy)⟩
/-- Another row, that a call made, in its place. -/
theorem KeepH.other {w u u' : World} {l : List (Nat × TypeId × List Int)} {v v' : Value} {hs hs' : List Ho} (h : KeepH w l v hs u) (hb : Below u.heap.size u u') (ho : Own u' u.heap.size v' hs') : KeepH w l v' hs' u' := by
  refine ⟨h.keep.call hb, ho.mono h.keep.bel.size, fun x hx e => ?_⟩
  have h1 := own_baseH ho _ e
  have h2 := (h.keep.blk x hx).2.lt
  omega
/-- The row has grown. -/
theorem KeepH.grown {w u u' : World} {l : List (Nat × TypeId × List Int)} {v v' : Value} {hs hs' : List Ho} (h : KeepH w l v hs u) (hg : u.grownBy u' v.ownBlock) (ho : Own u' w.heap.size v' hs') (hv : v'.ownBlock = v.ownBlock ∨ v'.ownBlock = some u.heap.size) : KeepH w l v' hs' u' := by
  refine ⟨⟨h.keep.bel.grown hg h.keep.bel.size (own_baseH h.own), fun x hx => ?_, h.keep.apart⟩, ho, fun x hx e => ?_⟩
  · have h1 := h.keep.blk x hx
    refine ⟨h1.1, ?_⟩
    unfold Blk
    rw [hg.block x.1 h1.2.lt (fun e => h.apart x hx e.symm)]
    exact h1.2
  · rcases hv with hv | hv
    · rw [hv] at e; exact h.apart x hx e
    · rw [hv] at e
      injection e with e
      have := (h.keep.blk x hx).2.lt
      omega
/-- The state of one is written. -/
theorem KeepH.state {w u : World} {l : List (Nat × TypeId × List Int)} {g cap n : Nat} {hs : List Ho} (h : KeepH w l (.slice (some ⟨g, 0, none⟩) n cap) hs u) {k : Nat} (hk : k < hs.length) (z : Int) :
    KeepH w l (.slice (some ⟨g, 0, none⟩) n cap) (hs.set k ⟨(hs.getD k z5).r, (hs.getD k z5).n, (hs.getD k z5).a, (hs.getD k z5).d, z⟩) (u.setCell ⟨g, k * 5 + 4, none⟩ (.int .i64 z)) := by
  have hg : w.heap.size ≤ g := own_baseH h.own g rfl
  refine ⟨⟨h.keep.bel.setCell (p := ⟨g, k * 5 + 4, none⟩) hg _, fun x hx => ⟨(h.keep.blk x hx).1, (h.keep.blk x hx).2.apart _ _ (fun e => h.apart x hx (by simp [Value.ownBlock]; exact e.symm))⟩, h.keep.apart⟩, h.own.state hk z, h.apart⟩
end Go.Proofs.YtbaccghnneidgaaGreat
