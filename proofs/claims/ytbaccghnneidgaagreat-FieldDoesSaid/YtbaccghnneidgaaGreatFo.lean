/- Fields that come in. -/
import Derived.Test.YtbaccghnneidgaaGreatFk
namespace Go.Proofs.YtbaccghnneidgaaGreat
set_option maxRecDepth 100000
open Go.ChangeShapes Go.WideShapes Go.ChangeAt Go.RowKit

theorem zs_c {H : Type} {enc : TypeId × Value → H} {W : World} {b : Nat} {sp : Nat → Bool} {held : Bool} {fuel : Nat} {l : List Value} {x : DataW H × List MemPlace} (hf : DataW.trod enc Tryz.prog W b sp held fuel 28 l = some x) : ∃ zs : List Int, l = vals zs ∧ zs.length = 579 ∧ ∀ z ∈ zs, (Lit.int .i64 z).wf = true := by
  have c0 : Tryz.prog.cellsOf 3 = 1 := by kernel_rfl
  have c1 : Tryz.prog.cellsOf 26 = 288 := by kernel_rfl
  have c3 : Tryz.prog.cellsOf 28 = 579 := by kernel_rfl
  obtain ⟨xs, m, _, _, hsz, hn, hel⟩ := DataW.trod_struct c_under hf
  rw [c3] at hsz
  obtain ⟨f1, f2, f3, f4, f5, hfs, e1, e2, e3, e4, e5⟩ := fields5 c_fields
  injection e1 with e1a e1; injection e1 with e1b e1c
  injection e2 with e2a e2; injection e2 with e2b e2c
  injection e3 with e3a e3; injection e3 with e3b e3c
  injection e4 with e4a e4; injection e4 with e4b e4c
  injection e5 with e5a e5; injection e5 with e5b e5c
  have hfs' : Tryz.prog.fieldsOf 28 = #[f1, f2, f3, f4, f5] := by apply Array.toList_inj.1; rw [hfs]
  rw [hfs'] at hel hn
  have hn5 : xs.length = 5 := by simpa using hn
  have d0 := hel 0 f1 rfl
  have d1 := hel 1 f2 rfl
  have d2 := hel 2 f3 rfl
  have d3 := hel 3 f4 rfl
  have d4 := hel 4 f5 rfl
  rw [e1a, e1b, c0, List.getElem?_eq_getElem (show 0 < xs.length by omega)] at d0
  rw [e2a, e2b, c0, List.getElem?_eq_getElem (show 1 < xs.length by omega)] at d1
  rw [e3a, e3b, c0, List.getElem?_eq_getElem (show 2 < xs.length by omega)] at d2
  rw [e4a, e4b, c1, List.getElem?_eq_getElem (show 3 < xs.length by omega)] at d3
  rw [e5a, e5b, c1, List.getElem?_eq_getElem (show 4 < xs.length by omega)] at d4
  have one : ∀ o, ∀ n : Int, (List.drop o l).take 1 = [.int .i64 n] → l[o]? = some (.int .i64 n) := fun o n h => by
    have := congrArg (fun x => x[0]?) h
    simpa [List.getElem?_take, List.getElem?_drop] using this
  obtain ⟨zs, h1, h2⟩ := ints_of_cells l (fun i hi => by
    by_cases i3 : i < 3
    · have : i = 0 ∨ i = 1 ∨ i = 2 := by omega
      rcases this with rfl | rfl | rfl
      · obtain ⟨n, h1, _, h2⟩ := DataW.trod_int Tryz.underlying3 d0
        exact ⟨n, one 0 n h1, h2⟩
      · obtain ⟨n, h1, _, h2⟩ := DataW.trod_int Tryz.underlying3 d1
        exact ⟨n, one 1 n h1, h2⟩
      · obtain ⟨n, h1, _, h2⟩ := DataW.trod_int Tryz.underlying3 d2
        exact ⟨n, one 2 n h1, h2⟩
    · by_cases i4 : i < 291
      · obtain ⟨n, h1, h2⟩ := ints_r d3 (i - 3) (by omega)
        refine ⟨n, ?_, h2⟩
        rw [List.getElem?_take, if_pos (by omega), List.getElem?_drop, show 3 + (i - 3) = i by omega] at h1
        exact h1
      · obtain ⟨n, h1, h2⟩ := ints_r d4 (i - 291) (by omega)
        refine ⟨n, ?_, h2⟩
        rw [List.getElem?_take, if_pos (by omega), List.getElem?_drop, show 291 + (i - 291) = i by omega] at h1
        exact h1)
  subst h1
  exact ⟨zs, rfl, by rw [← vals_length]; exact hsz, h2⟩
theorem lk_c {H : Type} {enc : TypeId × Value → H} {W : World} {b : Nat} {sp : Nat → Bool} {held : Bool} {fuel : Nat} {l : List Value} {x : DataW H × List MemPlace} (hf : DataW.trod enc Tryz.prog W b sp held fuel 30 l = some x) : ∃ a : Lk, l = vals a.l := by
  have c0 : Tryz.prog.cellsOf 3 = 1 := by kernel_rfl
  have c3 : Tryz.prog.cellsOf 30 = 4 := by kernel_rfl
  obtain ⟨xs, m, _, _, hsz, hn, hel⟩ := DataW.trod_struct lk_under hf
  rw [c3] at hsz
  obtain ⟨f1, f2, f3, f4, hfs, e1, e2, e3, e4⟩ := fields4n lk_fields
  injection e1 with e1a e1; injection e1 with e1b e1c
  injection e2 with e2a e2; injection e2 with e2b e2c
  injection e3 with e3a e3; injection e3 with e3b e3c
  injection e4 with e4a e4; injection e4 with e4b e4c
  have hfs' : Tryz.prog.fieldsOf 30 = #[f1, f2, f3, f4] := by apply Array.toList_inj.1; rw [hfs]
  rw [hfs'] at hel hn
  have hn4 : xs.length = 4 := by simpa using hn
  have d0 := hel 0 f1 rfl
  have d1 := hel 1 f2 rfl
  have d2 := hel 2 f3 rfl
  have d3 := hel 3 f4 rfl
  rw [e1a, e1b, c0, List.getElem?_eq_getElem (show 0 < xs.length by omega)] at d0
  rw [e2a, e2b, c0, List.getElem?_eq_getElem (show 1 < xs.length by omega)] at d1
  rw [e3a, e3b, c0, List.getElem?_eq_getElem (show 2 < xs.length by omega)] at d2
  rw [e4a, e4b, c0, List.getElem?_eq_getElem (show 3 < xs.length by omega)] at d3
  obtain ⟨n0, h0, _, _⟩ := DataW.trod_int Tryz.underlying3 d0
  obtain ⟨n1, h1, _, _⟩ := DataW.trod_int Tryz.underlying3 d1
  obtain ⟨n2, h2, _, _⟩ := DataW.trod_int Tryz.underlying3 d2
  obtain ⟨n3, h3, _, _⟩ := DataW.trod_int Tryz.underlying3 d3
  match l, hsz with
  | [a0, a1, a2, a3], _ =>
    simp at h0 h1 h2 h3
    exact ⟨⟨n0, n1, n2, n3⟩, by rw [h0, h1, h2, h3]; rfl⟩
theorem holds_c {H : Type} {enc : TypeId × Value → H} {W : World} {b : Nat} {sp : Nat → Bool} {held : Bool} {fuel : Nat} {l : List Value} {x : DataW H × List MemPlace} (hf : DataW.trod enc Tryz.prog W b sp held fuel 31 l = some x) : ∃ A n c hs, l = [.slice A n c] ∧ Came W A n hs ∧ n ≤ c := by
  have c5 : Tryz.prog.cellsOf 81 = 5 := by kernel_rfl
  rcases Deep.open_slice Tryz.underlying31 hf with ⟨hcs, _⟩ | ⟨a, n, c, m, k, DD, Pl, hcs, _, hl, hm, hmm, _, hel⟩
  · exact ⟨none, 0, 0, [], hcs, ⟨rfl, by simp [maxLen], .inl rfl⟩, Nat.le_refl _⟩
  · have hlm : n ≤ m := by rw [hmm]; split <;> omega
    have hcell : ∀ i, i < n → ∃ h : Ho, ∀ j, j < 5 → W.cell? (a.add (i * 5 + j)) = some (.int .i64 (h.l.getD j 0)) := fun i hi => by
      obtain ⟨cs', h1, h2⟩ := hel i (by omega)
      rw [c5] at h1
      unfold World.cells? at h1
      split at h1
      · rw [show List.range 5 = [0, 1, 2, 3, 4] from rfl] at h1
        simp only [List.mapM_cons, List.mapM_nil, Option.bind_eq_bind, Option.bind_eq_some_iff, Option.pure_def, Option.some.injEq] at h1
        obtain ⟨c0, h0, _, ⟨c1, h1', _, ⟨c2, h2', _, ⟨c3, h3', _, ⟨c4, h4', _, rfl, rfl⟩, rfl⟩, rfl⟩, rfl⟩, rfl⟩ := h1
        obtain ⟨⟨n0, rfl⟩, ⟨n1, rfl⟩, ⟨n2, rfl⟩, ⟨n3, rfl⟩, ⟨n4, rfl⟩⟩ := ints_ho h2
        rw [Deep.add_add] at h0 h1' h2' h3' h4'
        refine ⟨⟨n0, n1, n2, n3, n4⟩, fun j hj => ?_⟩
        have : j = 0 ∨ j = 1 ∨ j = 2 ∨ j = 3 ∨ j = 4 := by omega
        rcases this with rfl | rfl | rfl | rfl | rfl
        · exact h0
        · exact h1'
        · exact h2'
        · exact h3'
        · exact h4'
      · cases h1
    obtain ⟨f, hfn⟩ := Deep.choose_lt hcell
    refine ⟨some a, n, c, (List.range n).map f, hcs, ⟨by simp, Nat.le_trans hl hm, ?_⟩, hl⟩
    rcases Nat.eq_zero_or_pos n with h0 | h0
    · exact .inl h0
    · have hg : ∀ i, i < n → ((List.range n).map f).getD i z5 = f i := fun i hi => by simp [List.getD, hi]
      have hz : ∀ i, i < (flat ((List.range n).map f)).length → W.cell? (a.add i) = some (.int .i64 ((flat ((List.range n).map f)).getD i 0)) := fun i hi => by
        have hi' : i < n * 5 := by rw [flat_length] at hi; simpa using hi
        have h1 := hfn (i / 5) (by omega) (i % 5) (by omega)
        rw [show i / 5 * 5 + i % 5 = i by omega] at h1
        have h2 := flat_get (hs := (List.range n).map f) (k := i / 5) (j := i % 5) (by simp; omega) (by omega)
        rw [show i / 5 * 5 + i % 5 = i by omega, hg (i / 5) (by omega)] at h2
        rw [h1, h2]
      obtain ⟨b0, off, rfl, hc'⟩ := ints_at hz (by rw [flat_length]; simp; omega)
      refine .inr ⟨b0, off, rfl, fun k hk j u hu => ?_⟩
      obtain ⟨hj, rfl⟩ := vals_at hu
      rw [Ho.len] at hj
      have h3 := hc' (k * 5 + j) (by rw [flat_length]; simp; omega)
      rw [flat_get (by simpa using hk) hj, ← Nat.add_assoc] at h3
      exact h3


theorem drop_cut (l : List Value) (o n : Nat) : l.drop o = (l.drop o).take n ++ l.drop (o + n) := by
  rw [← List.drop_drop]
  exact (List.take_append_drop n (l.drop o)).symm
theorem open_f {H : Type} {enc : TypeId × Value → H} {W : World} {b b' : Nat} {sp : Nat → Bool} {held : Bool} {v : Value} {d : DataW H} {ps : List MemPlace} (hval : Value.okWide Tryz.prog W .any b' 33 v)
    (h : DataW.Trod enc Tryz.prog W b sp held 33 v d ps) : ∃ (p : Pf) (A : Option Addr) (c : Nat), v = .agg (p.fd A c).cells.toArray ∧ p.full ∧ Came W A p.hs.length p.hs ∧ p.hs.length ≤ c ∧ ∀ z ∈ p.C, (Lit.int .i64 z).wf = true := by
  have cs1 : Tryz.prog.cellsOf 9 = 1 := by kernel_rfl
  have ci : Tryz.prog.cellsOf 3 = 1 := by kernel_rfl
  have cc : Tryz.prog.cellsOf 28 = 579 := by kernel_rfl
  have cl : Tryz.prog.cellsOf 30 = 4 := by kernel_rfl
  have ch : Tryz.prog.cellsOf 31 = 1 := by kernel_rfl
  have cf : Tryz.prog.cellsOf 33 = 587 := by kernel_rfl
  obtain ⟨cs, rfl, hsz0, _⟩ : ∃ cs, v = .agg cs ∧ cs.size = Tryz.prog.cellsOf 33 ∧ Row.okWide Tryz.prog W .any b' 33 cs := by
    simpa [Value.okWide, f_under] using hval
  obtain ⟨l⟩ := cs
  rw [cf] at hsz0
  have hsz : l.length = 587 := by simpa using hsz0
  obtain ⟨fuel, hf⟩ := h
  obtain ⟨xs, m, _, _, _, hn, hel⟩ := DataW.trod_struct f_under hf
  obtain ⟨f1, f2, f3, f4, f5, f6, hfs, e1, e2, e3, e4, e5, e6⟩ := fields6n f_fields
  injection e1 with e1a e1; injection e1 with e1b e1c
  injection e2 with e2a e2; injection e2 with e2b e2c
  injection e3 with e3a e3; injection e3 with e3b e3c
  injection e4 with e4a e4; injection e4 with e4b e4c
  injection e5 with e5a e5; injection e5 with e5b e5c
  injection e6 with e6a e6; injection e6 with e6b e6c
  have hfs' : Tryz.prog.fieldsOf 33 = #[f1, f2, f3, f4, f5, f6] := by apply Array.toList_inj.1; rw [hfs]
  rw [hfs'] at hel hn
  have hn6 : xs.length = 6 := by simpa using hn
  have d0 := hel 0 f1 rfl
  have d1 := hel 1 f2 rfl
  have d2 := hel 2 f3 rfl
  have d3 := hel 3 f4 rfl
  have d4 := hel 4 f5 rfl
  have d5 := hel 5 f6 rfl
  rw [e1a, e1b, cs1, List.getElem?_eq_getElem (show 0 < xs.length by omega)] at d0
  rw [e2a, e2b, ci, List.getElem?_eq_getElem (show 1 < xs.length by omega)] at d1
  rw [e3a, e3b, ci, List.getElem?_eq_getElem (show 2 < xs.length by omega)] at d2
  rw [e4a, e4b, cc, List.getElem?_eq_getElem (show 3 < xs.length by omega)] at d3
  rw [e5a, e5b, cl, List.getElem?_eq_getElem (show 4 < xs.length by omega)] at d4
  rw [e6a, e6b, ch, List.getElem?_eq_getElem (show 5 < xs.length by omega)] at d5
  obtain ⟨s, h0, _, _⟩ := DataW.trod_string Tryz.underlying9 d0
  obtain ⟨k, h1, _, _⟩ := DataW.trod_int Tryz.underlying3 d1
  obtain ⟨e, h2, _, _⟩ := DataW.trod_int Tryz.underlying3 d2
  obtain ⟨C, h3, hC, hw⟩ := zs_c d3
  obtain ⟨M, h4⟩ := lk_c d4
  obtain ⟨A, n, c, hs, h5, hcame, hnc⟩ := holds_c d5
  have hlen := hcame.1
  subst hlen
  have hv : (Value.agg { toList := l }).cells.toList = l := rfl
  rw [hv] at h0 h1 h2 h3 h4 h5
  refine ⟨⟨s, k, e, C, M, hs⟩, A, c, ?_, hC, hcame, hnc, hw⟩
  have e7 : l = (Pf.fd ⟨s, k, e, C, M, hs⟩ A c).cells := by
    rw [show l = l.drop 0 from rfl, drop_cut l 0 1, h0, show 0 + 1 = 1 from rfl, drop_cut l 1 1, h1, show 1 + 1 = 2 from rfl, drop_cut l 2 1, h2, show 2 + 1 = 3 from rfl, drop_cut l 3 579, h3, show 3 + 579 = 582 from rfl, drop_cut l 582 4, h4, show 582 + 4 = 586 from rfl, drop_cut l 586 1, h5,
      List.drop_eq_nil_of_le (show l.length ≤ 586 + 1 by omega)]
    rfl
  rw [← e7]
/-- The numbers of a field that came in are ints. -/
theorem ok_of_wf {p : Pf} {A : Option Addr} {c : Nat} (h : ∀ z ∈ p.C, (Lit.int .i64 z).wf = true) : (p.fd A c).ok := fun z hz => by
  have h1 := h z (List.mem_of_mem_drop (List.mem_of_mem_take hz))
  simp [Lit.wf] at h1
  first | exact h1 | (have h2 := h1; simp [IntKind.inRange] at h2; omega)

end Go.Proofs.YtbaccghnneidgaaGreat
