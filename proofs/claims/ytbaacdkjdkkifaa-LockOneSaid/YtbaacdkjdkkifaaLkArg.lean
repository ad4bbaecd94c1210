/- Slices that come in: of ints, and of steps (four ints each). -/
import Derived.Test.YtbaacdkjdkkifaaLkw
import Derived.Deep.Slices
import Derived.ChangeSlices
namespace Go.Proofs.Ytbaacdkjdkkifaa
open Go.ChangeShapes Go.WideShapes Go.ChangeAt Go.RowKit

theorem s_info : (Try.prog.info? 33).map (·.size) = some 64 := by kernel_rfl
theorem s_zero : (Try.prog.info? 33).bind (·.zero) = some (.agg (vals (zer 64)).toArray) := by kernel_rfl
theorem d_info : (Try.prog.info? 37).map (·.size) = some 4 := by kernel_rfl
theorem d_zero : (Try.prog.info? 37).bind (·.zero) = some (.agg (vals (zer 4)).toArray) := by kernel_rfl
theorem d_fields : (Try.prog.fieldsOf 37).toList.map (fun f => (f.type, f.offset)) = [(3, 0), (3, 1), (3, 2), (3, 3)] := by kernel_rfl
theorem d_under : Try.prog.underlying 37 = some (.struct (Try.prog.fieldsOf 37)) := by kernel_rfl
theorem fields4 {fs : List Field} {x y z v : TypeId × Nat} (h : fs.map (fun f => (f.type, f.offset)) = [x, y, z, v]) : ∃ f g k l, fs = [f, g, k, l] ∧ (f.type, f.offset) = x ∧ (g.type, g.offset) = y ∧ (k.type, k.offset) = z ∧ (l.type, l.offset) = v := by
  match fs, h with
  | [f, g, k, l], h => exact ⟨f, g, k, l, rfl, by simpa using h⟩
/-- A row of steps, four ints each, as a slice reads it. -/
def Steps (w : World) (A : Option Addr) (n : Nat) (x : List Int) : Prop :=
  n ≤ maxLen ∧ (n = 0 ∨ ∃ b off : Nat, A = some ⟨b, off, none⟩ ∧ x.length = n * 4 ∧ ∀ i, i < n * 4 → w.cell? ⟨b, off + i, none⟩ = some (.int .i64 (x.getD i 0)))
theorem ints_do {H : Type} {enc : TypeId × Value → H} {W : World} {b : Nat} {sp : Nat → Bool} {held : Bool} {fuel : Nat} {c0 c1 c2 c3 : Value} {x : DataW H × List MemPlace} (h : DataW.trod enc Try.prog W b sp held fuel 37 [c0, c1, c2, c3] = some x) :
    (∃ n, c0 = .int .i64 n) ∧ (∃ n, c1 = .int .i64 n) ∧ (∃ n, c2 = .int .i64 n) ∧ ∃ n, c3 = .int .i64 n := by
  have ci : Try.prog.cellsOf 3 = 1 := by kernel_rfl
  obtain ⟨xs, m, _, _, _, hn, hel⟩ := DataW.trod_struct d_under h
  obtain ⟨f, g, k, l, hfs, e1, e2, e3, e4⟩ := fields4 d_fields
  injection e1 with e1a e1b
  injection e2 with e2a e2b
  injection e3 with e3a e3b
  injection e4 with e4a e4b
  have hfs' : Try.prog.fieldsOf 37 = #[f, g, k, l] := by apply Array.toList_inj.1; rw [hfs]
  rw [hfs'] at hel hn
  have hn4 : xs.length = 4 := by simpa using hn
  have d0 := hel 0 f rfl
  have d1 := hel 1 g rfl
  have d2 := hel 2 k rfl
  have d3 := hel 3 l rfl
  rw [e1a, e1b, ci, List.getElem?_eq_getElem (show 0 < xs.length by omega)] at d0
  rw [e2a, e2b, ci, List.getElem?_eq_getElem (show 1 < xs.length by omega)] at d1
  rw [e3a, e3b, ci, List.getElem?_eq_getElem (show 2 < xs.length by omega)] at d2
  rw [e4a, e4b, ci, List.getElem?_eq_getElem (show 3 < xs.length by omega)] at d3
  obtain ⟨n0, h0, _, _⟩ := DataW.trod_int Try.underlying3 d0
  obtain ⟨n1, h1, _, _⟩ := DataW.trod_int Try.underlying3 d1
  obtain ⟨n2, h2, _, _⟩ := DataW.trod_int Try.underlying3 d2
  obtain ⟨n3, h3, _, _⟩ := DataW.trod_int Try.underlying3 d3
  simp at h0 h1 h2 h3
  exact ⟨⟨n0, h0⟩, ⟨n1, h1⟩, ⟨n2, h2⟩, ⟨n3, h3⟩⟩
theorem open_steps {H : Type} {enc : TypeId × Value → H} {W : World} {b b' : Nat} {sp : Nat → Bool} {held : Bool} {v : Value} {d : DataW H} {p : List MemPlace} (hval : Value.okWide Try.prog W .any b' 29 v)
    (h : DataW.Trod enc Try.prog W b sp held 29 v d p) : ∃ A n c x, v = .slice A n c ∧ Steps W A n x := by
  have c4 : Try.prog.cellsOf 37 = 4 := by kernel_rfl
  obtain ⟨A, n, c, rfl⟩ := okWide_slice Try.underlying29 hval
  obtain ⟨fuel, hf⟩ := h
  rcases Deep.open_slice Try.underlying29 hf with ⟨hcs, _⟩ | ⟨a, len, cap, m, k, DD, Pl, hcs, _, hl, hm, hmm, _, hel⟩
  · simp [Value.cells] at hcs
    obtain ⟨rfl, rfl, rfl⟩ := hcs
    exact ⟨none, 0, 0, [], rfl, by simp [maxLen], .inl rfl⟩
  · simp [Value.cells] at hcs
    obtain ⟨rfl, rfl, rfl⟩ := hcs
    have hlm : n ≤ m := by rw [hmm]; split <;> omega
    have hcell : ∀ i, i < n * 4 → ∃ z, W.cell? (a.add i) = some (.int .i64 z) := fun i hi => by
      obtain ⟨cs', h1, h2⟩ := hel (i / 4) (by omega)
      rw [c4] at h1
      unfold World.cells? at h1
      split at h1
      · rw [show List.range 4 = [0, 1, 2, 3] from rfl] at h1
        simp only [List.mapM_cons, List.mapM_nil, Option.bind_eq_bind, Option.bind_eq_some_iff, Option.pure_def, Option.some.injEq] at h1
        obtain ⟨c0, h0, _, ⟨c1, h1', _, ⟨c2, h2', _, ⟨c3, h3', _, rfl, rfl⟩, rfl⟩, rfl⟩, rfl⟩ := h1
        obtain ⟨⟨n0, rfl⟩, ⟨n1, rfl⟩, ⟨n2, rfl⟩, ⟨n3, rfl⟩⟩ := ints_do h2
        rw [Deep.add_add] at h0 h1' h2' h3'
        have : i % 4 = 0 ∨ i % 4 = 1 ∨ i % 4 = 2 ∨ i % 4 = 3 := by omega
        rcases this with e | e | e | e
        · exact ⟨n0, by rw [← h0]; congr 2; omega⟩
        · exact ⟨n1, by rw [← h1']; congr 2; omega⟩
        · exact ⟨n2, by rw [← h2']; congr 2; omega⟩
        · exact ⟨n3, by rw [← h3']; congr 2; omega⟩
      · cases h1
    obtain ⟨f, hfn⟩ := Deep.choose_lt hcell
    refine ⟨some a, n, c, (List.range (n * 4)).map f, rfl, Nat.le_trans hl hm, ?_⟩
    rcases Nat.eq_zero_or_pos n with h0 | h0
    · exact .inl h0
    · have hz : ∀ i, i < ((List.range (n * 4)).map f).length → W.cell? (a.add i) = some (.int .i64 (((List.range (n * 4)).map f).getD i 0)) := fun i hi => by
        have hi' : i < n * 4 := by simpa using hi
        rw [hfn i hi']
        simp [List.getD, hi']
      obtain ⟨b0, off, rfl, hc'⟩ := ints_at hz (by simp; omega)
      exact .inr ⟨b0, off, rfl, by simp, fun i hi => hc' i (by simpa using hi)⟩
theorem seg4 {x : List Int} {o : Nat} (h : o + 4 ≤ x.length) : seg x o 4 = [x.getD o 0, x.getD (o + 1) 0, x.getD (o + 2) 0, x.getD (o + 3) 0] := by
  rw [seg_map h]; rfl
theorem reads_steps {w : World} {b off n : Nat} {x : List Int} (hx : x.length = n * 4) (h : ∀ i, i < n * 4 → w.cell? ⟨b, off + i, none⟩ = some (.int .i64 (x.getD i 0))) {k : Nat} (hk : k < n) : w.rangeAt b (off + k * 4) (vals (seg x (k * 4) 4)) := fun j v hv => by
  obtain ⟨hj, rfl⟩ := vals_at hv
  rw [seg_length (by omega)] at hj
  rw [seg_get hj, Nat.add_assoc, h (k * 4 + j) (by omega)]
theorem open_is {H : Type} {enc : TypeId × Value → H} {W : World} {b b' : Nat} {sp : Nat → Bool} {held : Bool} {v : Value} {d : DataW H} {p : List MemPlace} (hval : Value.okWide Try.prog W .any b' 44 v)
    (h : DataW.Trod enc Try.prog W b sp held 44 v d p) : ∃ A n c x, v = .slice A n c ∧ Reads W A n x := by
  obtain ⟨A, n, c, rfl⟩ := okWide_slice Try.underlying44 hval
  obtain ⟨fuel, hf⟩ := h
  rcases open_ints Try.underlying44 Try.underlying3 (by kernel_rfl) hf with ⟨hcs, _⟩ | ⟨x, l, c, zs, hcs, _, hl, hm, hz, _, hcell, _⟩
  · simp [Value.cells] at hcs
    obtain ⟨rfl, rfl, rfl⟩ := hcs
    exact ⟨none, 0, 0, [], rfl, rfl, by simp [maxLen], .inl rfl⟩
  · simp [Value.cells] at hcs
    obtain ⟨rfl, rfl, rfl⟩ := hcs
    have hnz : n ≤ zs.length := by rw [hz]; split <;> omega
    refine ⟨some x, n, _, zs.take n, rfl, by simp; omega, by omega, ?_⟩
    rcases Nat.eq_zero_or_pos n with h0 | h0
    · exact .inl h0
    · obtain ⟨b0, off, rfl, hc'⟩ := ints_at hcell (by omega)
      exact .inr ⟨b0, off, rfl, fun i hi => by rw [hc' i (by omega)]; simp [List.getD, hi]⟩
end Go.Proofs.Ytbaacdkjdkkifaa
