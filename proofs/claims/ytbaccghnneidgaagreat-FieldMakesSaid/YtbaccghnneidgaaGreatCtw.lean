/- Counters in memory: what the operations on them do; when two are the same; counters that come in. -/
import Derived.Test.YtbaccghnneidgaaGreatBase0
import Derived.Test.YtbaccghnneidgaaGreatCtr
import Derived.Test.YtbaccghnneidgaaGreatRtLaw
namespace Go.Proofs.YtbaccghnneidgaaGreat
set_option maxRecDepth 100000
open Go.ChangeShapes Go.WideShapes Go.ChangeAt Go.RowKit

theorem c_info : (Tryz.prog.info? 28).map (·.size) = some 579 := by kernel_rfl
theorem c_zero : (Tryz.prog.info? 28).bind (·.zero) = some (.agg (vals (zer 579)).toArray) := by kernel_rfl
theorem c_build (W : World) : (Instr.build 28 #[]).run Tryz.prog W = .ok (.agg (vals (zer 579)).toArray) W := by kernel_rfl
def three (a b c : Int) : List Int := (((zer 579).set 0 a).set 1 b).set 2 c
theorem three_length (a b c : Int) : (three a b c).length = 579 := by simp [three, zer_length]
theorem c_build3 (a b c : Int) (W : World) : (Instr.build 28 #[(0, .int .i64 a), (1, .int .i64 b), (2, .int .i64 c)]).run Tryz.prog W = .ok (.agg (vals (three a b c)).toArray) W := by kernel_rfl
theorem build_three {ops : Array Oper} {rest : List Oper} {o : Oper} {a : Act} {u : World} {Q : Exit → Act → World → Prop} (hgd : o.guard = none) (x y z : Operand) (ho : o.op = .build 28 #[(0, x), (1, y), (2, z)]) {p q r : Int}
    (hx : a.eval x = .int .i64 p) (hy : a.eval y = .int .i64 q) (hz : a.eval z = .int .i64 r)
    (h : wpList Tryz.prog ops Q rest (a.put o.dst (.agg (vals (three p q r)).toArray)) u) : wpList Tryz.prog ops Q (o :: rest) a u :=
  wpList_plain hgd fun K hK => by
    unfold Oper.wp execOp
    simp only [ho, List.map_toArray, List.map_cons, List.map_nil, hx, hy, hz, Sem.run_bind, Sem.run_pure, Result.andThen_ok, c_build3]
    exact hK _ _ h
theorem new_stores (i l h : Int) : ((three i l h).set 3 (i - l)).set 291 (h - i) = newC i l h := rfl

/-! ### Ints in kept blocks. -/
/-! ### Results. -/
/-! ### Equality. -/
theorem c_fields : (Tryz.prog.fieldsOf 28).toList.map (fun f => (f.type, f.offset, f.name)) = [(3, 0, "Init"), (3, 1, "Low"), (3, 2, "High"), (26, 3, "Down"), (26, 291, "Up")] := by kernel_rfl
theorem c_under : Tryz.prog.underlying 28 = some (.struct (Tryz.prog.fieldsOf 28)) := by kernel_rfl
theorem rr_size : ∀ w, (sizeOf 26).run Tryz.prog w = .ok 288 w := fun w => by kernel_rfl
theorem fields5 {fs : List Field} {x1 x2 x3 x4 x5 : TypeId × Nat × String} (h : fs.map (fun f => (f.type, f.offset, f.name)) = [x1, x2, x3, x4, x5]) : ∃ f1 f2 f3 f4 f5, fs = [f1, f2, f3, f4, f5] ∧ (f1.type, f1.offset, f1.name) = x1 ∧ (f2.type, f2.offset, f2.name) = x2 ∧ (f3.type, f3.offset, f3.name) = x3 ∧ (f4.type, f4.offset, f4.name) = x4 ∧ (f5.type, f5.offset, f5.name) = x5 := by
  match fs, h with
  | [f1, f2, f3, f4, f5], h => exact ⟨f1, f2, f3, f4, f5, rfl, by simpa using h⟩
theorem same_c {C D : List Int} (hC : C.length = 579) (hD : D.length = 579) : ((C.getD 0 0 == D.getD 0 0) && ((C.getD 1 0 == D.getD 1 0) && ((C.getD 2 0 == D.getD 2 0) && ((dnR C == dnR D) && ((upR C == upR D) && true))))) = (C == D) := by
  rw [Bool.eq_iff_iff]
  simp only [Bool.and_eq_true, beq_iff_eq, and_true]
  constructor
  · rintro ⟨h0, h1, h2, h3, h4⟩
    refine ext_get (by omega) fun k hk => ?_
    by_cases k0 : k < 3
    · have : k = 0 ∨ k = 1 ∨ k = 2 := by omega
      rcases this with rfl | rfl | rfl
      · exact h0
      · exact h1
      · exact h2
    · by_cases k1 : k < 291
      · have := congrArg (fun l => l.getD (k - 3) 0) h3
        simp only [dnR] at this
        rwa [seg_get (by omega), seg_get (by omega), show 3 + (k - 3) = k by omega] at this
      · have := congrArg (fun l => l.getD (k - 291) 0) h4
        simp only [upR] at this
        rwa [seg_get (by omega), seg_get (by omega), show 291 + (k - 291) = k by omega] at this
  · rintro rfl; exact ⟨rfl, rfl, rfl, rfl, rfl⟩
theorem eql_c (C D : List Int) (hC : C.length = 579) (hD : D.length = 579) (w : World) : (Op.equalIn 10000 28 (.agg (vals C).toArray) (.agg (vals D).toArray)).run Tryz.prog w = .ok (C == D) w := by
  have hst := run_equalIn_struct (P := Tryz.prog) w 9999 28 (vals C).toArray (vals D).toArray c_under (by kernel_rfl)
  have hi : ∀ x y : Int, (Op.equalIn 9999 3 (.int .i64 x) (.int .i64 y)).run Tryz.prog w = .ok (x == y) w := fun x y => run_equalIn_int w 9998 3 .i64 .i64 x y Tryz.underlying3
  have hr : ∀ R T : List Int, R.length = 288 → T.length = 288 → (Op.equalIn 9999 26 (.agg (vals R).toArray) (.agg (vals T).toArray)).run Tryz.prog w = .ok (R == T) w := fun R T h1 h2 => eql_r_any 9995 R T h1 h2 w
  have q := fun xs o => part_row (P := Tryz.prog) Tryz.underlying26 rfl rr_size xs o w
  obtain ⟨f1, f2, f3, f4, f5, hf, e1, e2, e3, e4, e5⟩ := fields5 c_fields
  injection e1 with e1a e1; injection e1 with e1b e1c
  injection e2 with e2a e2; injection e2 with e2b e2c
  injection e3 with e3a e3; injection e3 with e3b e3c
  injection e4 with e4a e4; injection e4 with e4b e4c
  injection e5 with e5a e5; injection e5 with e5b e5c
  rw [hst, hf, ← same_c hC hD]
  clear hst hf
  refine eqField (by rw [e1c]; decide) (by rw [e1a, e1b]; exact part_int C (by omega) w) (by rw [e1a, e1b]; exact part_int D (by omega) w) (by rw [e1a]; exact hi _ _) ?_
  refine eqField (by rw [e2c]; decide) (by rw [e2a, e2b]; exact part_int C (by omega) w) (by rw [e2a, e2b]; exact part_int D (by omega) w) (by rw [e2a]; exact hi _ _) ?_
  refine eqField (by rw [e3c]; decide) (by rw [e3a, e3b]; exact part_int C (by omega) w) (by rw [e3a, e3b]; exact part_int D (by omega) w) (by rw [e3a]; exact hi _ _) ?_
  refine eqField (by rw [e4c]; decide) (by rw [e4a, e4b]; exact q C 3) (by rw [e4a, e4b]; exact q D 3) (by rw [e4a]; exact hr _ _ (dnR_length hC) (dnR_length hD)) ?_
  refine eqField (by rw [e5c]; decide) (by rw [e5a, e5b]; exact q C 291) (by rw [e5a, e5b]; exact q D 291) (by rw [e5a]; exact hr _ _ (upR_length hC) (upR_length hD)) ?_
  simp [Op.eqFields]

/-! ### Counters that come in. -/
theorem ints_r {H : Type} {enc : TypeId × Value → H} {W : World} {b : Nat} {sp : Nat → Bool} {held : Bool} {fuel : Nat} {l : List Value} {x : DataW H × List MemPlace} (hf : DataW.trod enc Tryz.prog W b sp held fuel 26 l = some x) (i : Nat) (hi : i < 288) : ∃ n : Int, l[i]? = some (.int .i64 n) ∧ (Lit.int .i64 n).wf = true := by
  have c1 : Tryz.prog.cellsOf 23 = 16 := by kernel_rfl
  have c2 : Tryz.prog.cellsOf 24 = 256 := by kernel_rfl
  obtain ⟨xs, m, _, _, _, hn, hel⟩ := DataW.trod_struct r_under hf
  obtain ⟨f, g, k, hfs, e1, e2, e3⟩ := fields3 r_fields
  injection e1 with e1a e1; injection e1 with e1b e1c
  injection e2 with e2a e2; injection e2 with e2b e2c
  injection e3 with e3a e3; injection e3 with e3b e3c
  have hfs' : Tryz.prog.fieldsOf 26 = #[f, g, k] := by apply Array.toList_inj.1; rw [hfs]
  rw [hfs'] at hel hn
  have hn3 : xs.length = 3 := by simpa using hn
  have d0 := hel 0 f rfl
  have d1 := hel 1 g rfl
  have d2 := hel 2 k rfl
  rw [e1a, e1b, c1, List.getElem?_eq_getElem (show 0 < xs.length by omega)] at d0
  rw [e2a, e2b, c1, List.getElem?_eq_getElem (show 1 < xs.length by omega)] at d1
  rw [e3a, e3b, c2, List.getElem?_eq_getElem (show 2 < xs.length by omega)] at d2
  by_cases i1 : i < 16
  · obtain ⟨n, h1, h2⟩ := ints_vec d0 i i1
    refine ⟨n, ?_, h2⟩
    rw [List.getElem?_take, if_pos (by omega), List.getElem?_drop, Nat.zero_add] at h1
    exact h1
  · by_cases i2 : i < 32
    · obtain ⟨n, h1, h2⟩ := ints_vec d1 (i - 16) (by omega)
      refine ⟨n, ?_, h2⟩
      rw [List.getElem?_take, if_pos (by omega), List.getElem?_drop, show 16 + (i - 16) = i by omega] at h1
      exact h1
    · obtain ⟨n, h1, h2⟩ := ints_mov d2 (i - 32) (by omega)
      refine ⟨n, ?_, h2⟩
      rw [List.getElem?_take, if_pos (by omega), List.getElem?_drop, show 32 + (i - 32) = i by omega] at h1
      exact h1
theorem open_c {H : Type} {enc : TypeId × Value → H} {W : World} {b b' : Nat} {sp : Nat → Bool} {held : Bool} {v : Value} {d : DataW H} {p : List MemPlace} (hval : Value.okWide Tryz.prog W .any b' 28 v)
    (h : DataW.Trod enc Tryz.prog W b sp held 28 v d p) : ∃ zs : List Int, v = .agg (vals zs).toArray ∧ zs.length = 579 ∧ ∀ z ∈ zs, (Lit.int .i64 z).wf = true := by
  have c0 : Tryz.prog.cellsOf 3 = 1 := by kernel_rfl
  have c1 : Tryz.prog.cellsOf 26 = 288 := by kernel_rfl
  have c3 : Tryz.prog.cellsOf 28 = 579 := by kernel_rfl
  obtain ⟨cs, rfl, hsz, _⟩ : ∃ cs, v = .agg cs ∧ cs.size = Tryz.prog.cellsOf 28 ∧ Row.okWide Tryz.prog W .any b' 28 cs := by
    simpa [Value.okWide, c_under] using hval
  obtain ⟨l⟩ := cs
  rw [c3] at hsz
  have hsz : l.length = 579 := by simpa using hsz
  obtain ⟨fuel, hf⟩ := h
  obtain ⟨xs, m, _, _, _, hn, hel⟩ := DataW.trod_struct c_under hf
  obtain ⟨f1, f2, f3, f4, f5, hfs, e1, e2, e3, e4, e5⟩ := fields5 c_fields
  injection e1 with e1a e1; injection e1 with e1b e1c
  injection e2 with e2a e2; injection e2 with e2b e2c
  injection e3 with e3a e3; injection e3 with e3b e3c
  injection e4 with e4a e4; injection e4 with e4b e4c
  injection e5 with e5a e5; injection e5 with e5b e5c
  have hfs' : Tryz.prog.fieldsOf 28 = #[f1, f2, f3, f4, f5] := by apply Array.toList_inj.1; rw [hfs]
  rw [hfs'] at hel hn
  have hn5 : xs.length = 5 := by simpa using hn
  have d0 := hel 0 f1 rfl
  have d1 := hel 1 f2 rfl
  have d2 := hel 2 f3 rfl
  have d3 := hel 3 f4 rfl
  have d4 := hel 4 f5 rfl
  rw [e1a, e1b, c0, List.getElem?_eq_getElem (show 0 < xs.length by omega)] at d0
  rw [e2a, e2b, c0, List.getElem?_eq_getElem (show 1 < xs.length by omega)] at d1
  rw [e3a, e3b, c0, List.getElem?_eq_getElem (show 2 < xs.length by omega)] at d2
  rw [e4a, e4b, c1, List.getElem?_eq_getElem (show 3 < xs.length by omega)] at d3
  rw [e5a, e5b, c1, List.getElem?_eq_getElem (show 4 < xs.length by omega)] at d4
  have one : ∀ o, ∀ n : Int, (List.drop o (Value.agg { toList := l }).cells.toList).take 1 = [.int .i64 n] → l[o]? = some (.int .i64 n) := fun o n h => by
    have := congrArg (fun x => x[0]?) h
    simpa [Value.cells, List.getElem?_take, List.getElem?_drop] using this
  obtain ⟨zs, h1, h2⟩ := ints_of_cells l (fun i hi => by
    by_cases i3 : i < 3
    · have : i = 0 ∨ i = 1 ∨ i = 2 := by omega
      rcases this with rfl | rfl | rfl
      · obtain ⟨n, h1, _, h2⟩ := DataW.trod_int Tryz.underlying3 d0
        exact ⟨n, one 0 n h1, h2⟩
      · obtain ⟨n, h1, _, h2⟩ := DataW.trod_int Tryz.underlying3 d1
        exact ⟨n, one 1 n h1, h2⟩
      · obtain ⟨n, h1, _, h2⟩ := DataW.trod_int Tryz.underlying3 d2
        exact ⟨n, one 2 n h1, h2⟩
    · by_cases i4 : i < 291
      · obtain ⟨n, h1, h2⟩ := ints_r d3 (i - 3) (by omega)
        refine ⟨n, ?_, h2⟩
        rw [List.getElem?_take, if_pos (by omega), List.getElem?_drop, show 3 + (i - 3) = i by omega] at h1
        exact h1
      · obtain ⟨n, h1, h2⟩ := ints_r d4 (i - 291) (by omega)
        refine ⟨n, ?_, h2⟩
        rw [List.getElem?_take, if_pos (by omega), List.getElem?_drop, show 291 + (i - 291) = i by omega] at h1
        exact h1)
  subst h1
  exact ⟨zs, rfl, by rw [← vals_length]; exact hsz, h2⟩
end Go.Proofs.YtbaccghnneidgaaGreat
