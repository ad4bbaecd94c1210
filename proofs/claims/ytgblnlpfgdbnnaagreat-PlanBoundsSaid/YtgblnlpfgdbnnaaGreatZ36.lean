/- Slices of fields, and plans, that come in; what the statements go through. -/
import Derived.Test.YtgblnlpfgdbnnaaGreatZ35
namespace Go.Proofs.YtgblnlpfgdbnnaaGreat
set_option maxRecDepth 100000
open Go.ChangeShapes Go.WideShapes Go.ChangeAt Go.RowKit

theorem pl_fields : (Tryz.prog.fieldsOf 24).toList.map (fun f => (f.type, f.offset, f.name)) = [(3, 0, "Kind"), (9, 1, "Name"), (9, 2, "Other"), (3, 3, "A"), (3, 4, "B")] := by kernel_rfl
theorem pl_under : Tryz.prog.underlying 24 = some (.struct (Tryz.prog.fieldsOf 24)) := by kernel_rfl
theorem open_p {H : Type} {enc : TypeId × Value → H} {W : World} {b b' : Nat} {sp : Nat → Bool} {held : Bool} {v : Value} {d : DataW H} {ps : List MemPlace} (hval : Value.okWide Tryz.prog W .any b' 24 v)
    (h : DataW.Trod enc Tryz.prog W b sp held 24 v d ps) : ∃ p : Pl, v = .agg p.cells.toArray ∧ ok64W p.k ∧ ok64W p.a ∧ ok64W p.b := by
  have cs1 : Tryz.prog.cellsOf 9 = 1 := by kernel_rfl
  have ci : Tryz.prog.cellsOf 3 = 1 := by kernel_rfl
  have cf : Tryz.prog.cellsOf 24 = 5 := by kernel_rfl
  obtain ⟨cs, rfl, hsz0, _⟩ : ∃ cs, v = .agg cs ∧ cs.size = Tryz.prog.cellsOf 24 ∧ Row.okWide Tryz.prog W .any b' 24 cs := by
    simpa [Value.okWide, pl_under] using hval
  obtain ⟨l⟩ := cs
  rw [cf] at hsz0
  have hsz : l.length = 5 := by simpa using hsz0
  obtain ⟨fuel, hf⟩ := h
  obtain ⟨xs, m, _, _, _, hn, hel⟩ := DataW.trod_struct pl_under hf
  obtain ⟨f1, f2, f3, f4, f5, hfs, e1, e2, e3, e4, e5⟩ := fields5n pl_fields
  injection e1 with e1a e1; injection e1 with e1b e1c
  injection e2 with e2a e2; injection e2 with e2b e2c
  injection e3 with e3a e3; injection e3 with e3b e3c
  injection e4 with e4a e4; injection e4 with e4b e4c
  injection e5 with e5a e5; injection e5 with e5b e5c
  have hfs' : Tryz.prog.fieldsOf 24 = #[f1, f2, f3, f4, f5] := by apply Array.toList_inj.1; rw [hfs]
  rw [hfs'] at hel hn
  have hn5 : xs.length = 5 := by simpa using hn
  have d0 := hel 0 f1 rfl
  have d1 := hel 1 f2 rfl
  have d2 := hel 2 f3 rfl
  have d3 := hel 3 f4 rfl
  have d4 := hel 4 f5 rfl
  rw [e1a, e1b, ci, List.getElem?_eq_getElem (show 0 < xs.length by omega)] at d0
  rw [e2a, e2b, cs1, List.getElem?_eq_getElem (show 1 < xs.length by omega)] at d1
  rw [e3a, e3b, cs1, List.getElem?_eq_getElem (show 2 < xs.length by omega)] at d2
  rw [e4a, e4b, ci, List.getElem?_eq_getElem (show 3 < xs.length by omega)] at d3
  rw [e5a, e5b, ci, List.getElem?_eq_getElem (show 4 < xs.length by omega)] at d4
  obtain ⟨k, h0, _, w0⟩ := DataW.trod_int Tryz.underlying3 d0
  obtain ⟨s, h1, _, _⟩ := DataW.trod_string Tryz.underlying9 d1
  obtain ⟨t, h2, _, _⟩ := DataW.trod_string Tryz.underlying9 d2
  obtain ⟨x, h3, _, w3⟩ := DataW.trod_int Tryz.underlying3 d3
  obtain ⟨y, h4, _, w4⟩ := DataW.trod_int Tryz.underlying3 d4
  have hv : (Value.agg { toList := l }).cells.toList = l := rfl
  rw [hv] at h0 h1 h2 h3 h4
  clear hf hel d0 d1 d2 d3 d4 hv hval
  match l, hsz with
  | [a0, a1, a2, a3, a4], _ =>
    simp at h0 h1 h2 h3 h4
    refine ⟨⟨k, s, t, x, y⟩, by rw [h0, h1, h2, h3, h4]; rfl, ?_, ?_, ?_⟩
    · exact w0
    · exact w3
    · exact w4
/-! ### What is gone through. -/

end Go.Proofs.YtgblnlpfgdbnnaaGreat
