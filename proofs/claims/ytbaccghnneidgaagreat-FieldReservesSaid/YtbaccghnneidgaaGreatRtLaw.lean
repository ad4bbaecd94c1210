/- Rights that come in; 'awake' of layer 3. -/
import Derived.Test.YtbaccghnneidgaaGreatBase4
import Derived.Test.YtbaccghnneidgaaGreatBase2
namespace Go.Proofs.YtbaccghnneidgaaGreat
set_option maxRecDepth 100000
open Go.ChangeShapes Go.WideShapes Go.ChangeAt Go.RowKit

theorem ints_vec {H : Type} {enc : TypeId × Value → H} {W : World} {b : Nat} {sp : Nat → Bool} {held : Bool} {fuel : Nat} {cs : List Value} {x : DataW H × List MemPlace} (h : DataW.trod enc Tryz.prog W b sp held fuel 23 cs = some x) (i : Nat) (hi : i < 16) : ∃ n, cs[i]? = some (.int .i64 n) ∧ (Lit.int .i64 n).wf = true := by
  have c1 : Tryz.prog.cellsOf 3 = 1 := by kernel_rfl
  have c2 : Tryz.prog.cellsOf 23 = 16 := by kernel_rfl
  obtain ⟨xs, m, _, _, hl, hn, hel⟩ := DataW.trod_array Tryz.underlying23 h
  have he := hel i (by omega)
  rw [c1, Nat.mul_one, List.getElem?_eq_getElem (show i < xs.length by omega)] at he
  obtain ⟨n, h1, _, h3⟩ := DataW.trod_int Tryz.underlying3 he
  refine ⟨n, ?_, h3⟩
  rw [c2] at hl
  rw [List.drop_eq_getElem_cons (show i < cs.length by omega)] at h1
  simp only [List.take_succ_cons, List.take_zero, List.cons.injEq, and_true] at h1
  rw [List.getElem?_eq_getElem (show i < cs.length by omega), h1]
theorem ints_mov {H : Type} {enc : TypeId × Value → H} {W : World} {b : Nat} {sp : Nat → Bool} {held : Bool} {fuel : Nat} {cs : List Value} {x : DataW H × List MemPlace} (h : DataW.trod enc Tryz.prog W b sp held fuel 24 cs = some x) (i : Nat) (hi : i < 256) : ∃ n, cs[i]? = some (.int .i64 n) ∧ (Lit.int .i64 n).wf = true := by
  have c2 : Tryz.prog.cellsOf 23 = 16 := by kernel_rfl
  obtain ⟨xs, m, _, _, hl, hn, hel⟩ := DataW.trod_array Tryz.underlying24 h
  have he := hel (i / 16) (by omega)
  rw [c2, List.getElem?_eq_getElem (show i / 16 < xs.length by omega)] at he
  obtain ⟨n, h1, h2⟩ := ints_vec he (i % 16) (by omega)
  refine ⟨n, ?_, h2⟩
  rw [List.getElem?_take, if_pos (by omega), List.getElem?_drop, show i / 16 * 16 + i % 16 = i by omega] at h1
  exact h1
/-- Rights that come in. -/
theorem open_r {H : Type} {enc : TypeId × Value → H} {W : World} {b b' : Nat} {sp : Nat → Bool} {held : Bool} {v : Value} {d : DataW H} {p : List MemPlace} (hval : Value.okWide Tryz.prog W .any b' 26 v)
    (h : DataW.Trod enc Tryz.prog W b sp held 26 v d p) : ∃ zs : List Int, v = .agg (vals zs).toArray ∧ zs.length = 288 ∧ ∀ z ∈ zs, (Lit.int .i64 z).wf = true := by
  have c1 : Tryz.prog.cellsOf 23 = 16 := by kernel_rfl
  have c2 : Tryz.prog.cellsOf 24 = 256 := by kernel_rfl
  have c3 : Tryz.prog.cellsOf 26 = 288 := by kernel_rfl
  obtain ⟨cs, rfl, hsz, _⟩ : ∃ cs, v = .agg cs ∧ cs.size = Tryz.prog.cellsOf 26 ∧ Row.okWide Tryz.prog W .any b' 26 cs := by
    simpa [Value.okWide, r_under] using hval
  obtain ⟨l⟩ := cs
  rw [c3] at hsz
  have hsz : l.length = 288 := by simpa using hsz
  obtain ⟨fuel, hf⟩ := h
  obtain ⟨xs, m, _, _, _, hn, hel⟩ := DataW.trod_struct r_under hf
  obtain ⟨f, g, k, hfs, e1, e2, e3⟩ := fields3 r_fields
  injection e1 with e1a e1; injection e1 with e1b e1c
  injection e2 with e2a e2; injection e2 with e2b e2c
  injection e3 with e3a e3; injection e3 with e3b e3c
  have hfs' : Tryz.prog.fieldsOf 26 = #[f, g, k] := by apply Array.toList_inj.1; rw [hfs]
  rw [hfs'] at hel hn
  have hn3 : xs.length = 3 := by simpa using hn
  have d0 := hel 0 f rfl
  have d1 := hel 1 g rfl
  have d2 := hel 2 k rfl
  rw [e1a, e1b, c1, List.getElem?_eq_getElem (show 0 < xs.length by omega)] at d0
  rw [e2a, e2b, c1, List.getElem?_eq_getElem (show 1 < xs.length by omega)] at d1
  rw [e3a, e3b, c2, List.getElem?_eq_getElem (show 2 < xs.length by omega)] at d2
  obtain ⟨zs, h1, h2⟩ := ints_of_cells l (fun i hi => by
    by_cases i1 : i < 16
    · obtain ⟨n, h1, h2⟩ := ints_vec d0 i i1
      refine ⟨n, ?_, h2⟩
      rw [List.getElem?_take, if_pos (by omega), List.getElem?_drop, Nat.zero_add] at h1
      exact h1
    · by_cases i2 : i < 32
      · obtain ⟨n, h1, h2⟩ := ints_vec d1 (i - 16) (by omega)
        refine ⟨n, ?_, h2⟩
        rw [List.getElem?_take, if_pos (by omega), List.getElem?_drop, show 16 + (i - 16) = i by omega] at h1
        exact h1
      · obtain ⟨n, h1, h2⟩ := ints_mov d2 (i - 32) (by omega)
        refine ⟨n, ?_, h2⟩
        rw [List.getElem?_take, if_pos (by omega), List.getElem?_drop, show 32 + (i - 32) = i by omega] at h1
        exact h1)
  subst h1
  exact ⟨zs, rfl, by rw [← vals_length]; exact hsz, h2⟩

/-! ### awake -/
def a1 : List Int := (zer 288).set 0 5
def a2 : List Int := a1.set 33 3
theorem a1_length : a1.length = 288 := by simp [a1, zer_length]
theorem a2_length : a2.length = 288 := by simp [a2, a1_length]
theorem aw_give : grA (zer 288) 0 0 5 = a1 ∧ grE (zer 288) 0 0 5 = 0 := by decide +kernel
theorem aw_move : moveA a1 0 1 3 = a2 ∧ moveE a1 0 1 3 = 0 := by decide +kernel
theorem aw_free : freeN a2 1 = 3 ∧ freeE a2 1 = 0 := by decide +kernel
theorem aw_use : useE a2 1 4 = 8 ∧ useA a2 1 4 = zer 288 := by decide +kernel
theorem aw_right : rightsB a2 = true := by decide +kernel
end Go.Proofs.YtbaccghnneidgaaGreat
