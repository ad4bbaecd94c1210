/- Rights: when two are the same; a row of what was moved; rights that come in. -/
import Derived.Test.YtpbjencigepnfaaRts
import Derived.Test.YtpbjencigepnfaaVecLaw
namespace Go.Proofs.Ytpbjencigepnfaa
open Go.ChangeShapes Go.WideShapes Go.ChangeAt Go.RowKit

theorem part_row {P : Program} {e : TypeId} {d : TypeDesc} {m : Nat} (he : P.underlying e = some d) (hd : d.isRow = true) (hsz : ∀ w, (sizeOf e).run P w = .ok m w) (xs : List Int) (o : Nat) (w : World) :
    (part e (vals xs).toArray o).run P w = .ok (.agg (vals (seg xs o m)).toArray) w := by
  have ha : (isAgg e).run P w = .ok true w := by
    unfold isAgg
    rw [Sem.run_bind, run_underlying he w]
    cases d <;> simp_all
  simp [part, ha, hsz, vals_seg]

theorem all_chunks {n m : Nat} (hm : 0 < m) {xs ys : List Int} (hx : xs.length = n * m) (hy : ys.length = n * m) : ((List.range n).all fun i => seg xs (i * m) m == seg ys (i * m) m) = (xs == ys) := by
  rw [Bool.eq_iff_iff]
  simp only [List.all_eq_true, List.mem_range, beq_iff_eq]
  constructor
  · intro h
    refine ext_get (by omega) fun k hk => ?_
    have hlt : k / m < n := by rw [Nat.div_lt_iff_lt_mul hm]; omega
    have h1 := congrArg (fun l => l.getD (k % m) 0) (h (k / m) hlt)
    have h2 : k % m < m := Nat.mod_lt _ hm
    simp only [seg_get h2] at h1
    have e : k / m * m + k % m = k := by rw [Nat.mul_comm]; exact Nat.div_add_mod k m
    rwa [e] at h1
  · intro h i _; rw [h]

theorem run_equalIn_rows {P : Program} (w : World) (d : Nat) (t e : TypeId) (dd : TypeDesc) (n m : Nat) (hm : 0 < m) (ht : P.underlying t = some (.array n e)) (he : P.underlying e = some dd) (hd : dd.isRow = true) (hsz : ∀ w, (sizeOf e).run P w = .ok m w)
    (heq : ∀ xs ys : List Int, xs.length = m → ys.length = m → (Op.equalIn d e (.agg (vals xs).toArray) (.agg (vals ys).toArray)).run P w = .ok (xs == ys) w)
    (xs ys : List Int) (hx : xs.length = n * m) (hy : ys.length = n * m) :
    (Op.equalIn (d + 1) t (.agg (vals xs).toArray) (.agg (vals ys).toArray)).run P w = .ok (xs == ys) w := by
  rw [← all_chunks hm hx hy, List.range_eq_range', Op.equalIn]
  simp only [Sem.run_bind, run_underlying ht, Result.andThen_ok, hsz, Std.Legacy.Range.forIn_eq_forIn_range', Std.Legacy.Range.size, Nat.sub_zero, Nat.add_sub_cancel, Nat.div_one]
  have hl : ∀ i ∈ List.range' 0 n 1, i < n := fun i hi => by simpa using (List.mem_range'_1.1 hi).2
  generalize List.range' 0 n 1 = l at hl ⊢
  induction l with
  | nil => simp
  | cons i l ih =>
    have hi : i < n := hl i (by simp)
    have hb : i * m + m ≤ n * m := by rw [← Nat.succ_mul]; exact Nat.mul_le_mul_right m hi
    have px := part_row (m := m) he hd hsz xs (i * m) w
    have py := part_row (m := m) he hd hsz ys (i * m) w
    have pe := heq (seg xs (i * m) m) (seg ys (i * m) m) (seg_length (by omega)) (seg_length (by omega))
    simp only [List.forIn_cons, Sem.run_bind, px, py, pe, Result.andThen_ok, List.all_cons]
    cases hb : (seg xs (i * m) m == seg ys (i * m) m)
    · simp
    · simp only [Bool.not_true, Bool.false_eq_true, if_false, Sem.run_pure, Result.andThen_ok, Bool.true_and]
      exact ih fun j hj => hl j (by simp [hj])

theorem vec_size : ∀ w, (sizeOf 23).run Try.prog w = .ok 16 w := fun w => by kernel_rfl
theorem mov_size : ∀ w, (sizeOf 24).run Try.prog w = .ok 256 w := fun w => by kernel_rfl
theorem r_fields : (Try.prog.fieldsOf 26).toList.map (fun f => (f.type, f.offset, f.name)) = [(23, 0, "Given"), (23, 16, "Used"), (24, 32, "Moved")] := by kernel_rfl
theorem fields3 {fs : List Field} {x y z : TypeId × Nat × String} (h : fs.map (fun f => (f.type, f.offset, f.name)) = [x, y, z]) : ∃ f g k, fs = [f, g, k] ∧ (f.type, f.offset, f.name) = x ∧ (g.type, g.offset, g.name) = y ∧ (k.type, k.offset, k.name) = z := by
  match fs, h with
  | [f, g, k], h => exact ⟨f, g, k, rfl, by simpa using h⟩
theorem eqFields3 {P : Program} {w : World} {d : Nat} {xs ys : Array Value} {f g k : Field} {a1 b1 a2 b2 a3 b3 : Value} {r1 r2 r3 : Bool} (n1 : f.name ≠ "_") (n2 : g.name ≠ "_") (n3 : k.name ≠ "_")
    (p1 : (part f.type xs f.offset).run P w = .ok a1 w) (q1 : (part f.type ys f.offset).run P w = .ok b1 w) (e1 : (Op.equalIn d f.type a1 b1).run P w = .ok r1 w)
    (p2 : (part g.type xs g.offset).run P w = .ok a2 w) (q2 : (part g.type ys g.offset).run P w = .ok b2 w) (e2 : (Op.equalIn d g.type a2 b2).run P w = .ok r2 w)
    (p3 : (part k.type xs k.offset).run P w = .ok a3 w) (q3 : (part k.type ys k.offset).run P w = .ok b3 w) (e3 : (Op.equalIn d k.type a3 b3).run P w = .ok r3 w) :
    (Op.eqFields d xs ys [f, g, k]).run P w = .ok (r1 && (r2 && r3)) w := by
  cases r1 <;> cases r2 <;> cases r3 <;> simp [Op.eqFields, n1, n2, n3, p1, q1, e1, p2, q2, e2, p3, q3, e3]
theorem r_under : Try.prog.underlying 26 = some (.struct (Try.prog.fieldsOf 26)) := by kernel_rfl

theorem segs_same {R T : List Int} (hR : R.length = 288) (hT : T.length = 288) : ((seg R 0 16 == seg T 0 16) && ((seg R 16 16 == seg T 16 16) && (seg R 32 256 == seg T 32 256))) = (R == T) := by
  rw [Bool.eq_iff_iff]
  simp only [Bool.and_eq_true, beq_iff_eq]
  constructor
  · rintro ⟨h1, h2, h3⟩
    have e : ∀ R : List Int, R.length = 288 → R = seg R 0 16 ++ (seg R 16 16 ++ seg R 32 256) := fun R hR => by
      refine ext_get (by simp [seg]; omega) fun k hk => ?_
      simp only [seg, List.getD, List.getElem?_append, List.length_take, List.length_drop, List.getElem?_take, List.getElem?_drop]
      by_cases k1 : k < 16
      · simp [k1, show k < min 16 R.length by omega]
      · by_cases k2 : k < 32
        · simp [show ¬ k < min 16 R.length by omega, show k - min 16 R.length < min 16 (R.length - 16) by omega, show k - min 16 R.length < 16 by omega, show 16 + (k - min 16 R.length) = k by omega]
        · simp [show ¬ k < min 16 R.length by omega, show ¬ k - min 16 R.length < min 16 (R.length - 16) by omega, show k - min 16 R.length - min 16 (R.length - 16) < 256 by omega, show 32 + (k - min 16 R.length - min 16 (R.length - 16)) = k by omega]
    rw [e R hR, e T hT, h1, h2, h3]
  · rintro rfl; exact ⟨rfl, rfl, rfl⟩

theorem eql_r_any (d : Nat) (R T : List Int) (hR : R.length = 288) (hT : T.length = 288) (w : World) : (Op.equalIn (d + 4) 26 (.agg (vals R).toArray) (.agg (vals T).toArray)).run Try.prog w = .ok (R == T) w := by
  have hst := run_equalIn_struct (P := Try.prog) w (d + 3) 26 (vals R).toArray (vals T).toArray r_under (by kernel_rfl)
  have hv : ∀ xs ys : List Int, xs.length = 16 → ys.length = 16 → (Op.equalIn (d + 3) 23 (.agg (vals xs).toArray) (.agg (vals ys).toArray)).run Try.prog w = .ok (xs == ys) w := fun xs ys hx hy =>
    run_equalIn_ints w (d + 1) 23 3 16 Try.underlying23 Try.underlying3 int_size xs ys hx hy
  have hv' : ∀ xs ys : List Int, xs.length = 16 → ys.length = 16 → (Op.equalIn (d + 2) 23 (.agg (vals xs).toArray) (.agg (vals ys).toArray)).run Try.prog w = .ok (xs == ys) w := fun xs ys hx hy =>
    run_equalIn_ints w d 23 3 16 Try.underlying23 Try.underlying3 int_size xs ys hx hy
  have hm := run_equalIn_rows w (d + 2) 24 23 _ 16 16 (by omega) Try.underlying24 Try.underlying23 rfl vec_size hv'
    (seg R 32 256) (seg T 32 256) (seg_length (by omega)) (seg_length (by omega))
  have p := fun xs o => part_row (P := Try.prog) Try.underlying23 rfl vec_size xs o w
  have q := fun xs o => part_row (P := Try.prog) Try.underlying24 rfl mov_size xs o w
  obtain ⟨f, g, k, hf, e1, e2, e3⟩ := fields3 r_fields
  injection e1 with e1a e1; injection e1 with e1b e1c
  injection e2 with e2a e2; injection e2 with e2b e2c
  injection e3 with e3a e3; injection e3 with e3b e3c
  rw [hst, hf, ← segs_same hR hT]
  clear hst hf
  refine eqFields3 (by rw [e1c]; decide) (by rw [e2c]; decide) (by rw [e3c]; decide) (by rw [e1a, e1b]; exact p R 0) (by rw [e1a, e1b]; exact p T 0) (by rw [e1a]; exact hv _ _ (seg_length (by omega)) (seg_length (by omega)))
    (by rw [e2a, e2b]; exact p R 16) (by rw [e2a, e2b]; exact p T 16) (by rw [e2a]; exact hv _ _ (seg_length (by omega)) (seg_length (by omega)))
    (by rw [e3a, e3b]; exact q R 32) (by rw [e3a, e3b]; exact q T 32) (by rw [e3a]; exact hm)

theorem eql_r (R T : List Int) (hR : R.length = 288) (hT : T.length = 288) (w : World) : (Op.equalIn 10000 26 (.agg (vals R).toArray) (.agg (vals T).toArray)).run Try.prog w = .ok (R == T) w := eql_r_any 9996 R T hR hT w

/-- Row k of what was moved. -/
theorem index_row {M : List Int} (_hM : M.length = 256) {k : Nat} (hk : k < 16) (w : World) : (Instr.index 24 (.agg (vals M).toArray) (.int .i64 (k : Int))).run Try.prog w = .ok (.agg (vals (seg M (k * 16) 16)).toArray) w := by
  have hp := part_row (P := Try.prog) Try.underlying23 rfl vec_size M (k * 16) w
  simp [Instr.index, asIntOf, run_underlying Try.underlying24, hk, hp]
end Go.Proofs.Ytpbjencigepnfaa
