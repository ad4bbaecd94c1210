/- Plain arithmetic of layer 3: what is free, and in all, of numbers that are not too great; what a change of one number does to it. No walk. Counters (579 ints: Init, Low, High, Down, Up): what the document asks of them, in plain lists. No walk. Rights that come in; 'awake' of layer 3. Counters in memory: what the operations on them do; when two are the same; counters that come in. -/
import Derived.Test.YtofngihdnjgmeaaLBase0
import Derived.Test.YtofngihdnjgmeaaLBase4
import Derived.Test.YtofngihdnjgmeaaLBase2
namespace Go.Proofs.Ytofngihdnjgmeaa
set_option maxRecDepth 100000
open Go.ChangeShapes Go.WideShapes Go.ChangeAt Go.RowKit

/-! ### Sums that can be told. -/
theorem ng_small {z : Int} (h1 : -9223372036854775808 < z) (h2 : z ≤ 9223372036854775807) : ng z = -z := by unfold ng wrap64; omega
/-! ### What grows. -/
end Go.Proofs.Ytofngihdnjgmeaa

namespace Go.Proofs.Ytofngihdnjgmeaa
set_option maxRecDepth 100000
open Go.ChangeShapes Go.WideShapes Go.ChangeAt Go.RowKit

def dnR (C : List Int) : List Int := seg C 3 288
def upR (C : List Int) : List Int := seg C 291 288
theorem dnR_length {C : List Int} (h : C.length = 579) : (dnR C).length = 288 := seg_length (by omega)
theorem upR_length {C : List Int} (h : C.length = 579) : (upR C).length = 288 := seg_length (by omega)

/-! ### A new one. -/
def newB (i l h : Int) : Bool := isB l && isB h && decide (l ≤ i) && decide (i ≤ h) && isB (h - l)
def newC (i l h : Int) : List Int := (((((zer 579).set 0 i).set 1 l).set 2 h).set 3 (i - l)).set 291 (h - i)
def newE (i l h : Int) : Int := if newB i l h = true then 0 else 2
def newA (i l h : Int) : List Int := if newB i l h = true then newC i l h else zer 579
theorem newC_length (i l h : Int) : (newC i l h).length = 579 := by simp [newC, zer_length]
theorem newA_length (i l h : Int) : (newA i l h).length = 579 := by unfold newA; split; exact newC_length _ _ _; exact zer_length 579
theorem new_yes {i l h : Int} (hb : newB i l h = true) : newE i l h = 0 ∧ newA i l h = newC i l h := by simp [newE, newA, hb]
theorem new_no {i l h : Int} (hb : newB i l h = false) : newE i l h = 2 ∧ newA i l h = zer 579 := by simp [newE, newA, hb]

/-! ### Two changes. -/
/-! ### Joined. -/
/-! ### The value. -/
/-! ### Whether one may be. -/
def tieB (G : List Int) (d : Int) (U : List Int) : Bool := decide (tot G ≤ 1099511627776) && decide (tot G = d + tot U)
def rightC (C : List Int) : Bool := ((isB (C.getD 1 0) && isB (C.getD 2 0) && decide (C.getD 1 0 ≤ C.getD 0 0) && decide (C.getD 0 0 ≤ C.getD 2 0)) && (rightsB (dnR C) && rightsB (upR C))) &&
  (tieB (seg C 3 16) (C.getD 0 0 - C.getD 1 0) (seg C 307 16) && tieB (seg C 291 16) (C.getD 2 0 - C.getD 0 0) (seg C 19 16))
def covB (G : List Int) (h l : Int) (U : List Int) : Bool := (sumE G == 0) && (sumE (h :: ng l :: U) == 0) && (sumN G == sumN (h :: ng l :: U))
def rcovB (G : List Int) (d : Int) (U : List Int) : Bool := (sumE G == 0) && (sumE U == 0) && (addE d (sumN U) == 0) && (sumN G == addN d (sumN U))
theorem rightB_pos {xs : List Int} (h : rightB xs = true) : ∀ z ∈ xs, 0 ≤ z ∧ z ≤ 1099511627776 := by
  intro z hz
  have := List.all_eq_true.1 h z hz
  simpa using this
theorem sum_cases {xs : List Int} (h : ∀ z ∈ xs, 0 ≤ z) : (tot xs ≤ 1099511627776 ∧ sumN xs = tot xs ∧ sumE xs = 0) ∨ (1099511627776 < tot xs ∧ sumN xs = 0 ∧ sumE xs = 2) := by
  by_cases ht : tot xs ≤ 1099511627776
  · exact .inl ⟨ht, sum_fits h ht⟩
  · exact .inr ⟨by omega, sum_over h (by omega)⟩
theorem sum_head {h l : Int} {U : List Int} (hh : isB h = true) (hl : isB l = true) (hle : l ≤ h) (hU : ∀ z ∈ U, 0 ≤ z) : (h - l + tot U ≤ 1099511627776 ∧ sumN (h :: ng l :: U) = h - l + tot U ∧ sumE (h :: ng l :: U) = 0) ∨ (1099511627776 < h - l + tot U ∧ sumN (h :: ng l :: U) = 0 ∧ sumE (h :: ng l :: U) = 2) := by
  obtain ⟨h1, h2⟩ := isB_iff.1 hh
  obtain ⟨l1, l2⟩ := isB_iff.1 hl
  have ht := tot_nonneg hU
  have e : ng l = -l := ng_small (by omega) (by omega)
  have ok1 : okB 0 h (0 + h) = true := okB_iff.2 ⟨isB_zero, hh, by rw [Int.zero_add]; exact hh⟩
  have s1 : sumFrom 0 (h :: ng l :: U) = if okB h (-l) (h + -l) then sumFrom (h + -l) U else none := by rw [sumFrom, if_pos ok1, sumFrom, Int.zero_add, e]
  by_cases hd : h - l ≤ 1099511627776
  · have ok2 : okB h (-l) (h + -l) = true := okB_iff.2 ⟨hh, isB_iff.2 (by omega), isB_iff.2 (by omega)⟩
    rw [if_pos ok2, sumFrom_tot hU _ (by omega) (by omega)] at s1
    by_cases ht : h - l + tot U ≤ 1099511627776
    · rw [if_pos (by omega)] at s1
      obtain ⟨a, b⟩ := sumN_some s1
      exact .inl ⟨ht, by rw [a]; omega, b⟩
    · rw [if_neg (by omega)] at s1
      exact .inr ⟨by omega, sumN_none s1⟩
  · have ok2 : okB h (-l) (h + -l) = false := okB_r (isB_not.2 (by omega))
    rw [if_neg (by simp [ok2])] at s1
    exact .inr ⟨by omega, sumN_none s1⟩
theorem cov_tie {G U : List Int} {h l : Int} (hh : isB h = true) (hl : isB l = true) (hle : l ≤ h) (hG : rightB G = true) (hU : rightB U = true) : covB G h l U = tieB G (h - l) U := by
  have hG' := rightB_pos hG
  have hU' := rightB_pos hU
  unfold covB tieB
  rcases sum_cases (fun z hz => (hG' z hz).1) with ⟨g1, g2, g3⟩ | ⟨g1, g2, g3⟩
  · rcases sum_head hh hl hle (fun z hz => (hU' z hz).1) with ⟨u1, u2, u3⟩ | ⟨u1, u2, u3⟩
    · rw [g2, g3, u2, u3, Bool.eq_iff_iff]; simp [g1]
    · rw [g2, g3, u2, u3, Bool.eq_iff_iff]; simp; omega
  · rw [g2, g3, Bool.eq_iff_iff]; simp; omega
theorem rcov_tie {G U : List Int} {d : Int} (hd : 0 ≤ d) (hG : rightB G = true) (hU : rightB U = true) : rcovB G d U = tieB G d U := by
  have hG' := rightB_pos hG
  have hU' := rightB_pos hU
  have ht := tot_nonneg (fun z hz => (hU' z hz).1)
  unfold rcovB tieB
  rcases sum_cases (fun z hz => (hG' z hz).1) with ⟨g1, g2, g3⟩ | ⟨g1, g2, g3⟩
  · rcases sum_cases (fun z hz => (hU' z hz).1) with ⟨u1, u2, u3⟩ | ⟨u1, u2, u3⟩
    · by_cases hs : d + tot U ≤ 1099511627776
      · obtain ⟨a1, a2⟩ := addE_ok (okB_iff.2 ⟨isB_iff.2 (show -1099511627776 ≤ d ∧ d ≤ 1099511627776 by omega), isB_iff.2 (show -1099511627776 ≤ tot U ∧ tot U ≤ 1099511627776 by omega), isB_iff.2 (by omega)⟩)
        rw [g2, g3, u2, u3, a1, a2, Bool.eq_iff_iff]; simp [g1]
      · obtain ⟨a1, a2⟩ := addE_no (okB_r (a := d) (b := tot U) (isB_not.2 (by omega)))
        rw [g2, g3, u2, u3, a1, a2, Bool.eq_iff_iff]; simp; omega
    · rw [g2, g3, u2, u3, Bool.eq_iff_iff]; simp; omega
  · rw [g2, g3, Bool.eq_iff_iff]; simp; omega
theorem rights_vecs {R : List Int} (h : rightsB R = true) : rightB (seg R 0 16) = true ∧ rightB (seg R 16 16) = true := by
  have := (rightsB_iff.1 h).1
  exact ⟨this 0 (by omega), this 1 (by omega)⟩
theorem dn_given (C : List Int) : seg (dnR C) 0 16 = seg C 3 16 := seg_seg (by omega)
theorem dn_used (C : List Int) : seg (dnR C) 16 16 = seg C 19 16 := seg_seg (by omega)
theorem up_given (C : List Int) : seg (upR C) 0 16 = seg C 291 16 := seg_seg (by omega)
theorem up_used (C : List Int) : seg (upR C) 16 16 = seg C 307 16 := seg_seg (by omega)
/-- The vectors of a counter whose rights may be. -/
theorem c_vecs {C : List Int} (h1 : rightsB (dnR C) = true) (h2 : rightsB (upR C) = true) : rightB (seg C 3 16) = true ∧ rightB (seg C 19 16) = true ∧ rightB (seg C 291 16) = true ∧ rightB (seg C 307 16) = true := by
  have a := rights_vecs h1
  have b := rights_vecs h2
  rw [dn_given, dn_used] at a
  rw [up_given, up_used] at b
  exact ⟨a.1, a.2, b.1, b.2⟩
end Go.Proofs.Ytofngihdnjgmeaa

namespace Go.Proofs.Ytofngihdnjgmeaa
set_option maxRecDepth 100000
open Go.ChangeShapes Go.WideShapes Go.ChangeAt Go.RowKit

theorem ints_vec {H : Type} {enc : TypeId × Value → H} {W : World} {b : Nat} {sp : Nat → Bool} {held : Bool} {fuel : Nat} {cs : List Value} {x : DataW H × List MemPlace} (h : DataW.trod enc Try.prog W b sp held fuel 23 cs = some x) (i : Nat) (hi : i < 16) : ∃ n, cs[i]? = some (.int .i64 n) ∧ (Lit.int .i64 n).wf = true := by
  have c1 : Try.prog.cellsOf 3 = 1 := by kernel_rfl
  have c2 : Try.prog.cellsOf 23 = 16 := by kernel_rfl
  obtain ⟨xs, m, _, _, hl, hn, hel⟩ := DataW.trod_array Try.underlying23 h
  have he := hel i (by omega)
  rw [c1, Nat.mul_one, List.getElem?_eq_getElem (show i < xs.length by omega)] at he
  obtain ⟨n, h1, _, h3⟩ := DataW.trod_int Try.underlying3 he
  refine ⟨n, ?_, h3⟩
  rw [c2] at hl
  rw [List.drop_eq_getElem_cons (show i < cs.length by omega)] at h1
  simp only [List.take_succ_cons, List.take_zero, List.cons.injEq, and_true] at h1
  rw [List.getElem?_eq_getElem (show i < cs.length by omega), h1]
theorem ints_mov {H : Type} {enc : TypeId × Value → H} {W : World} {b : Nat} {sp : Nat → Bool} {held : Bool} {fuel : Nat} {cs : List Value} {x : DataW H × List MemPlace} (h : DataW.trod enc Try.prog W b sp held fuel 24 cs = some x) (i : Nat) (hi : i < 256) : ∃ n, cs[i]? = some (.int .i64 n) ∧ (Lit.int .i64 n).wf = true := by
  have c2 : Try.prog.cellsOf 23 = 16 := by kernel_rfl
  obtain ⟨xs, m, _, _, hl, hn, hel⟩ := DataW.trod_array Try.underlying24 h
  have he := hel (i / 16) (by omega)
  rw [c2, List.getElem?_eq_getElem (show i / 16 < xs.length by omega)] at he
  obtain ⟨n, h1, h2⟩ := ints_vec he (i % 16) (by omega)
  refine ⟨n, ?_, h2⟩
  rw [List.getElem?_take, if_pos (by omega), List.getElem?_drop, show i / 16 * 16 + i % 16 = i by omega] at h1
  exact h1
/-! ### awake -/
def a1 : List Int := (zer 288).set 0 5
def a2 : List Int := a1.set 33 3
end Go.Proofs.Ytofngihdnjgmeaa

namespace Go.Proofs.Ytofngihdnjgmeaa
set_option maxRecDepth 100000
open Go.ChangeShapes Go.WideShapes Go.ChangeAt Go.RowKit

theorem c_info : (Try.prog.info? 28).map (·.size) = some 579 := by kernel_rfl
theorem c_zero : (Try.prog.info? 28).bind (·.zero) = some (.agg (vals (zer 579)).toArray) := by kernel_rfl
theorem c_build (W : World) : (Instr.build 28 #[]).run Try.prog W = .ok (.agg (vals (zer 579)).toArray) W := by kernel_rfl
def three (a b c : Int) : List Int := (((zer 579).set 0 a).set 1 b).set 2 c
theorem three_length (a b c : Int) : (three a b c).length = 579 := by simp [three, zer_length]
theorem c_build3 (a b c : Int) (W : World) : (Instr.build 28 #[(0, .int .i64 a), (1, .int .i64 b), (2, .int .i64 c)]).run Try.prog W = .ok (.agg (vals (three a b c)).toArray) W := by kernel_rfl
theorem build_three {ops : Array Oper} {rest : List Oper} {o : Oper} {a : Act} {u : World} {Q : Exit → Act → World → Prop} (hgd : o.guard = none) (x y z : Operand) (ho : o.op = .build 28 #[(0, x), (1, y), (2, z)]) {p q r : Int}
    (hx : a.eval x = .int .i64 p) (hy : a.eval y = .int .i64 q) (hz : a.eval z = .int .i64 r)
    (h : wpList Try.prog ops Q rest (a.put o.dst (.agg (vals (three p q r)).toArray)) u) : wpList Try.prog ops Q (o :: rest) a u :=
  wpList_plain hgd fun K hK => by
    unfold Oper.wp execOp
    simp only [ho, List.map_toArray, List.map_cons, List.map_nil, hx, hy, hz, Sem.run_bind, Sem.run_pure, Result.andThen_ok, c_build3]
    exact hK _ _ h
theorem new_stores (i l h : Int) : ((three i l h).set 3 (i - l)).set 291 (h - i) = newC i l h := rfl

/-! ### Ints in kept blocks. -/
/-! ### Results. -/
/-! ### Equality. -/
theorem c_fields : (Try.prog.fieldsOf 28).toList.map (fun f => (f.type, f.offset, f.name)) = [(3, 0, "Init"), (3, 1, "Low"), (3, 2, "High"), (26, 3, "Down"), (26, 291, "Up")] := by kernel_rfl
theorem c_under : Try.prog.underlying 28 = some (.struct (Try.prog.fieldsOf 28)) := by kernel_rfl
theorem rr_size : ∀ w, (sizeOf 26).run Try.prog w = .ok 288 w := fun w => by kernel_rfl
theorem fields5 {fs : List Field} {x1 x2 x3 x4 x5 : TypeId × Nat × String} (h : fs.map (fun f => (f.type, f.offset, f.name)) = [x1, x2, x3, x4, x5]) : ∃ f1 f2 f3 f4 f5, fs = [f1, f2, f3, f4, f5] ∧ (f1.type, f1.offset, f1.name) = x1 ∧ (f2.type, f2.offset, f2.name) = x2 ∧ (f3.type, f3.offset, f3.name) = x3 ∧ (f4.type, f4.offset, f4.name) = x4 ∧ (f5.type, f5.offset, f5.name) = x5 := by
  match fs, h with
  | [f1, f2, f3, f4, f5], h => exact ⟨f1, f2, f3, f4, f5, rfl, by simpa using h⟩
theorem same_c {C D : List Int} (hC : C.length = 579) (hD : D.length = 579) : ((C.getD 0 0 == D.getD 0 0) && ((C.getD 1 0 == D.getD 1 0) && ((C.getD 2 0 == D.getD 2 0) && ((dnR C == dnR D) && ((upR C == upR D) && true))))) = (C == D) := by
  rw [Bool.eq_iff_iff]
  simp only [Bool.and_eq_true, beq_iff_eq, and_true]
  constructor
  · rintro ⟨h0, h1, h2, h3, h4⟩
    refine ext_get (by omega) fun k hk => ?_
    by_cases k0 : k < 3
    · have : k = 0 ∨ k = 1 ∨ k = 2 := by omega
      rcases this with rfl | rfl | rfl
      · exact h0
      · exact h1
      · exact h2
    · by_cases k1 : k < 291
      · have := congrArg (fun l => l.getD (k - 3) 0) h3
        simp only [dnR] at this
        rwa [seg_get (by omega), seg_get (by omega), show 3 + (k - 3) = k by omega] at this
      · have := congrArg (fun l => l.getD (k - 291) 0) h4
        simp only [upR] at this
        rwa [seg_get (by omega), seg_get (by omega), show 291 + (k - 291) = k by omega] at this
  · rintro rfl; exact ⟨rfl, rfl, rfl, rfl, rfl⟩
theorem eql_c (C D : List Int) (hC : C.length = 579) (hD : D.length = 579) (w : World) : (Op.equalIn 10000 28 (.agg (vals C).toArray) (.agg (vals D).toArray)).run Try.prog w = .ok (C == D) w := by
  have hst := run_equalIn_struct (P := Try.prog) w 9999 28 (vals C).toArray (vals D).toArray c_under (by kernel_rfl)
  have hi : ∀ x y : Int, (Op.equalIn 9999 3 (.int .i64 x) (.int .i64 y)).run Try.prog w = .ok (x == y) w := fun x y => run_equalIn_int w 9998 3 .i64 .i64 x y Try.underlying3
  have hr : ∀ R T : List Int, R.length = 288 → T.length = 288 → (Op.equalIn 9999 26 (.agg (vals R).toArray) (.agg (vals T).toArray)).run Try.prog w = .ok (R == T) w := fun R T h1 h2 => eql_r_any 9995 R T h1 h2 w
  have q := fun xs o => part_row (P := Try.prog) Try.underlying26 rfl rr_size xs o w
  obtain ⟨f1, f2, f3, f4, f5, hf, e1, e2, e3, e4, e5⟩ := fields5 c_fields
  injection e1 with e1a e1; injection e1 with e1b e1c
  injection e2 with e2a e2; injection e2 with e2b e2c
  injection e3 with e3a e3; injection e3 with e3b e3c
  injection e4 with e4a e4; injection e4 with e4b e4c
  injection e5 with e5a e5; injection e5 with e5b e5c
  rw [hst, hf, ← same_c hC hD]
  clear hst hf
  refine eqField (by rw [e1c]; decide) (by rw [e1a, e1b]; exact part_int C (by omega) w) (by rw [e1a, e1b]; exact part_int D (by omega) w) (by rw [e1a]; exact hi _ _) ?_
  refine eqField (by rw [e2c]; decide) (by rw [e2a, e2b]; exact part_int C (by omega) w) (by rw [e2a, e2b]; exact part_int D (by omega) w) (by rw [e2a]; exact hi _ _) ?_
  refine eqField (by rw [e3c]; decide) (by rw [e3a, e3b]; exact part_int C (by omega) w) (by rw [e3a, e3b]; exact part_int D (by omega) w) (by rw [e3a]; exact hi _ _) ?_
  refine eqField (by rw [e4c]; decide) (by rw [e4a, e4b]; exact q C 3) (by rw [e4a, e4b]; exact q D 3) (by rw [e4a]; exact hr _ _ (dnR_length hC) (dnR_length hD)) ?_
  refine eqField (by rw [e5c]; decide) (by rw [e5a, e5b]; exact q C 291) (by rw [e5a, e5b]; exact q D 291) (by rw [e5a]; exact hr _ _ (upR_length hC) (upR_length hD)) ?_
  simp [Op.eqFields]

/-! ### Counters that come in. -/
theorem ints_r {H : Type} {enc : TypeId × Value → H} {W : World} {b : Nat} {sp : Nat → Bool} {held : Bool} {fuel : Nat} {l : List Value} {x : DataW H × List MemPlace} (hf : DataW.trod enc Try.prog W b sp held fuel 26 l = some x) (i : Nat) (hi : i < 288) : ∃ n : Int, l[i]? = some (.int .i64 n) ∧ (Lit.int .i64 n).wf = true := by
  have c1 : Try.prog.cellsOf 23 = 16 := by kernel_rfl
  have c2 : Try.prog.cellsOf 24 = 256 := by kernel_rfl
  obtain ⟨xs, m, _, _, _, hn, hel⟩ := DataW.trod_struct r_under hf
  obtain ⟨f, g, k, hfs, e1, e2, e3⟩ := fields3 r_fields
  injection e1 with e1a e1; injection e1 with e1b e1c
  injection e2 with e2a e2; injection e2 with e2b e2c
  injection e3 with e3a e3; injection e3 with e3b e3c
  have hfs' : Try.prog.fieldsOf 26 = #[f, g, k] := by apply Array.toList_inj.1; rw [hfs]
  rw [hfs'] at hel hn
  have hn3 : xs.length = 3 := by simpa using hn
  have d0 := hel 0 f rfl
  have d1 := hel 1 g rfl
  have d2 := hel 2 k rfl
  rw [e1a, e1b, c1, List.getElem?_eq_getElem (show 0 < xs.length by omega)] at d0
  rw [e2a, e2b, c1, List.getElem?_eq_getElem (show 1 < xs.length by omega)] at d1
  rw [e3a, e3b, c2, List.getElem?_eq_getElem (show 2 < xs.length by omega)] at d2
  by_cases i1 : i < 16
  · obtain ⟨n, h1, h2⟩ := ints_vec d0 i i1
    refine ⟨n, ?_, h2⟩
    rw [List.getElem?_take, if_pos (by omega), List.getElem?_drop, Nat.zero_add] at h1
    exact h1
  · by_cases i2 : i < 32
    · obtain ⟨n, h1, h2⟩ := ints_vec d1 (i - 16) (by omega)
      refine ⟨n, ?_, h2⟩
      rw [List.getElem?_take, if_pos (by omega), List.getElem?_drop, show 16 + (i - 16) = i by omega] at h1
      exact h1
    · obtain ⟨n, h1, h2⟩ := ints_mov d2 (i - 32) (by omega)
      refine ⟨n, ?_, h2⟩
      rw [List.getElem?_take, if_pos (by omega), List.getElem?_drop, show 32 + (i - 32) = i by omega] at h1
      exact h1
end Go.Proofs.Ytofngihdnjgmeaa
