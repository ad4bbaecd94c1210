/- Fields that come in.; What a call keeps: things, each in blocks of its own, and what is only read, apart from them.; Slices of fields in memory: rows that are read, and rows of the call's own; what the operations on kept things do.; Names: the order in which they stand; the library's Compare of texts, and the document's before. -/
import Derived.Test.YtgblnlpfgdbnnaaGreatZ18
import Derived.Lib.Strings
namespace Go.Proofs.YtgblnlpfgdbnnaaGreat
set_option maxRecDepth 100000
open Go.ChangeShapes Go.WideShapes Go.ChangeAt Go.RowKit

theorem zs_c {H : Type} {enc : TypeId × Value → H} {W : World} {b : Nat} {sp : Nat → Bool} {held : Bool} {fuel : Nat} {l : List Value} {x : DataW H × List MemPlace} (hf : DataW.trod enc Tryz.prog W b sp held fuel 38 l = some x) : ∃ zs : List Int, l = vals zs ∧ zs.length = 579 ∧ ∀ z ∈ zs, (Lit.int .i64 z).wf = true := by
  have c0 : Tryz.prog.cellsOf 3 = 1 := by kernel_rfl
  have c1 : Tryz.prog.cellsOf 36 = 288 := by kernel_rfl
  have c3 : Tryz.prog.cellsOf 38 = 579 := by kernel_rfl
  obtain ⟨xs, m, _, _, hsz, hn, hel⟩ := DataW.trod_struct c_under hf
  rw [c3] at hsz
  obtain ⟨f1, f2, f3, f4, f5, hfs, e1, e2, e3, e4, e5⟩ := fields5 c_fields
  injection e1 with e1a e1; injection e1 with e1b e1c
  injection e2 with e2a e2; injection e2 with e2b e2c
  injection e3 with e3a e3; injection e3 with e3b e3c
  injection e4 with e4a e4; injection e4 with e4b e4c
  injection e5 with e5a e5; injection e5 with e5b e5c
  have hfs' : Tryz.prog.fieldsOf 38 = #[f1, f2, f3, f4, f5] := by apply Array.toList_inj.1; rw [hfs]
  rw [hfs'] at hel hn
  have hn5 : xs.length = 5 := by simpa using hn
  have d0 := hel 0 f1 rfl
  have d1 := hel 1 f2 rfl
  have d2 := hel 2 f3 rfl
  have d3 := hel 3 f4 rfl
  have d4 := hel 4 f5 rfl
  rw [e1a, e1b, c0, List.getElem?_eq_getElem (show 0 < xs.length by omega)] at d0
  rw [e2a, e2b, c0, List.getElem?_eq_getElem (show 1 < xs.length by omega)] at d1
  rw [e3a, e3b, c0, List.getElem?_eq_getElem (show 2 < xs.length by omega)] at d2
  rw [e4a, e4b, c1, List.getElem?_eq_getElem (show 3 < xs.length by omega)] at d3
  rw [e5a, e5b, c1, List.getElem?_eq_getElem (show 4 < xs.length by omega)] at d4
  have one : ∀ o, ∀ n : Int, (List.drop o l).take 1 = [.int .i64 n] → l[o]? = some (.int .i64 n) := fun o n h => by
    have := congrArg (fun x => x[0]?) h
    simpa [List.getElem?_take, List.getElem?_drop] using this
  obtain ⟨zs, h1, h2⟩ := ints_of_cells l (fun i hi => by
    by_cases i3 : i < 3
    · have : i = 0 ∨ i = 1 ∨ i = 2 := by omega
      rcases this with rfl | rfl | rfl
      · obtain ⟨n, h1, _, h2⟩ := DataW.trod_int Tryz.underlying3 d0
        exact ⟨n, one 0 n h1, h2⟩
      · obtain ⟨n, h1, _, h2⟩ := DataW.trod_int Tryz.underlying3 d1
        exact ⟨n, one 1 n h1, h2⟩
      · obtain ⟨n, h1, _, h2⟩ := DataW.trod_int Tryz.underlying3 d2
        exact ⟨n, one 2 n h1, h2⟩
    · by_cases i4 : i < 291
      · obtain ⟨n, h1, h2⟩ := ints_r d3 (i - 3) (by omega)
        refine ⟨n, ?_, h2⟩
        rw [List.getElem?_take, if_pos (by omega), List.getElem?_drop, show 3 + (i - 3) = i by omega] at h1
        exact h1
      · obtain ⟨n, h1, h2⟩ := ints_r d4 (i - 291) (by omega)
        refine ⟨n, ?_, h2⟩
        rw [List.getElem?_take, if_pos (by omega), List.getElem?_drop, show 291 + (i - 291) = i by omega] at h1
        exact h1)
  subst h1
  exact ⟨zs, rfl, by rw [← vals_length]; exact hsz, h2⟩
theorem lk_c {H : Type} {enc : TypeId × Value → H} {W : World} {b : Nat} {sp : Nat → Bool} {held : Bool} {fuel : Nat} {l : List Value} {x : DataW H × List MemPlace} (hf : DataW.trod enc Tryz.prog W b sp held fuel 40 l = some x) : ∃ a : Lk, l = vals a.l := by
  have c0 : Tryz.prog.cellsOf 3 = 1 := by kernel_rfl
  have c3 : Tryz.prog.cellsOf 40 = 4 := by kernel_rfl
  obtain ⟨xs, m, _, _, hsz, hn, hel⟩ := DataW.trod_struct lk_under hf
  rw [c3] at hsz
  obtain ⟨f1, f2, f3, f4, hfs, e1, e2, e3, e4⟩ := fields4n lk_fields
  injection e1 with e1a e1; injection e1 with e1b e1c
  injection e2 with e2a e2; injection e2 with e2b e2c
  injection e3 with e3a e3; injection e3 with e3b e3c
  injection e4 with e4a e4; injection e4 with e4b e4c
  have hfs' : Tryz.prog.fieldsOf 40 = #[f1, f2, f3, f4] := by apply Array.toList_inj.1; rw [hfs]
  rw [hfs'] at hel hn
  have hn4 : xs.length = 4 := by simpa using hn
  have d0 := hel 0 f1 rfl
  have d1 := hel 1 f2 rfl
  have d2 := hel 2 f3 rfl
  have d3 := hel 3 f4 rfl
  rw [e1a, e1b, c0, List.getElem?_eq_getElem (show 0 < xs.length by omega)] at d0
  rw [e2a, e2b, c0, List.getElem?_eq_getElem (show 1 < xs.length by omega)] at d1
  rw [e3a, e3b, c0, List.getElem?_eq_getElem (show 2 < xs.length by omega)] at d2
  rw [e4a, e4b, c0, List.getElem?_eq_getElem (show 3 < xs.length by omega)] at d3
  obtain ⟨n0, h0, _, _⟩ := DataW.trod_int Tryz.underlying3 d0
  obtain ⟨n1, h1, _, _⟩ := DataW.trod_int Tryz.underlying3 d1
  obtain ⟨n2, h2, _, _⟩ := DataW.trod_int Tryz.underlying3 d2
  obtain ⟨n3, h3, _, _⟩ := DataW.trod_int Tryz.underlying3 d3
  match l, hsz with
  | [a0, a1, a2, a3], _ =>
    simp at h0 h1 h2 h3
    exact ⟨⟨n0, n1, n2, n3⟩, by rw [h0, h1, h2, h3]; rfl⟩
theorem holds_c {H : Type} {enc : TypeId × Value → H} {W : World} {b : Nat} {sp : Nat → Bool} {held : Bool} {fuel : Nat} {l : List Value} {x : DataW H × List MemPlace} (hf : DataW.trod enc Tryz.prog W b sp held fuel 41 l = some x) : ∃ A n c hs, l = [.slice A n c] ∧ Came W A n hs ∧ n ≤ c := by
  have c5 : Tryz.prog.cellsOf 81 = 5 := by kernel_rfl
  rcases Deep.open_slice Tryz.underlying41 hf with ⟨hcs, _⟩ | ⟨a, n, c, m, k, DD, Pl, hcs, _, hl, hm, hmm, _, hel⟩
  · exact ⟨none, 0, 0, [], hcs, ⟨rfl, by simp [maxLen], .inl rfl⟩, Nat.le_refl _⟩
  · have hlm : n ≤ m := by rw [hmm]; split <;> omega
    have hcell : ∀ i, i < n → ∃ h : Ho, ∀ j, j < 5 → W.cell? (a.add (i * 5 + j)) = some (.int .i64 (h.l.getD j 0)) := fun i hi => by
      obtain ⟨cs', h1, h2⟩ := hel i (by omega)
      rw [c5] at h1
      unfold World.cells? at h1
      split at h1
      · rw [show List.range 5 = [0, 1, 2, 3, 4] from rfl] at h1
        simp only [List.mapM_cons, List.mapM_nil, Option.bind_eq_bind, Option.bind_eq_some_iff, Option.pure_def, Option.some.injEq] at h1
        obtain ⟨c0, h0, _, ⟨c1, h1', _, ⟨c2, h2', _, ⟨c3, h3', _, ⟨c4, h4', _, rfl, rfl⟩, rfl⟩, rfl⟩, rfl⟩, rfl⟩ := h1
        obtain ⟨⟨n0, rfl⟩, ⟨n1, rfl⟩, ⟨n2, rfl⟩, ⟨n3, rfl⟩, ⟨n4, rfl⟩⟩ := ints_ho h2
        rw [Deep.add_add] at h0 h1' h2' h3' h4'
        refine ⟨⟨n0, n1, n2, n3, n4⟩, fun j hj => ?_⟩
        have : j = 0 ∨ j = 1 ∨ j = 2 ∨ j = 3 ∨ j = 4 := by omega
        rcases this with rfl | rfl | rfl | rfl | rfl
        · exact h0
        · exact h1'
        · exact h2'
        · exact h3'
        · exact h4'
      · cases h1
    obtain ⟨f, hfn⟩ := Deep.choose_lt hcell
    refine ⟨some a, n, c, (List.range n).map f, hcs, ⟨by simp, Nat.le_trans hl hm, ?_⟩, hl⟩
    rcases Nat.eq_zero_or_pos n with h0 | h0
    · exact .inl h0
    · have hg : ∀ i, i < n → ((List.range n).map f).getD i z5 = f i := fun i hi => by simp [List.getD, hi]
      have hz : ∀ i, i < (flat ((List.range n).map f)).length → W.cell? (a.add i) = some (.int .i64 ((flat ((List.range n).map f)).getD i 0)) := fun i hi => by
        have hi' : i < n * 5 := by rw [flat_length] at hi; simpa using hi
        have h1 := hfn (i / 5) (by omega) (i % 5) (by omega)
        rw [show i / 5 * 5 + i % 5 = i by omega] at h1
        have h2 := flat_get (hs := (List.range n).map f) (k := i / 5) (j := i % 5) (by simp; omega) (by omega)
        rw [show i / 5 * 5 + i % 5 = i by omega, hg (i / 5) (by omega)] at h2
        rw [h1, h2]
      obtain ⟨b0, off, rfl, hc'⟩ := ints_at hz (by rw [flat_length]; simp; omega)
      refine .inr ⟨b0, off, rfl, fun k hk j u hu => ?_⟩
      obtain ⟨hj, rfl⟩ := vals_at hu
      rw [Ho.len] at hj
      have h3 := hc' (k * 5 + j) (by rw [flat_length]; simp; omega)
      rw [flat_get (by simpa using hk) hj, ← Nat.add_assoc] at h3
      exact h3

theorem drop_cut (l : List Value) (o n : Nat) : l.drop o = (l.drop o).take n ++ l.drop (o + n) := by
  rw [← List.drop_drop]
  exact (List.take_append_drop n (l.drop o)).symm
theorem row_f {H : Type} {enc : TypeId × Value → H} {W : World} {b : Nat} {sp : Nat → Bool} {held : Bool} {fuel : Nat} {l : List Value} {x : DataW H × List MemPlace} (hsz : l.length = 587)
    (hf : DataW.trod enc Tryz.prog W b sp held fuel 43 l = some x) : ∃ (p : Pf) (A : Option Addr) (c : Nat), l = (p.fd A c).cells ∧ p.full ∧ Came W A p.hs.length p.hs ∧ p.hs.length ≤ c ∧ ∀ z ∈ p.C, (Lit.int .i64 z).wf = true := by
  have cs1 : Tryz.prog.cellsOf 9 = 1 := by kernel_rfl
  have ci : Tryz.prog.cellsOf 3 = 1 := by kernel_rfl
  have cc : Tryz.prog.cellsOf 38 = 579 := by kernel_rfl
  have cl : Tryz.prog.cellsOf 40 = 4 := by kernel_rfl
  have ch : Tryz.prog.cellsOf 41 = 1 := by kernel_rfl
  obtain ⟨xs, m, _, _, _, hn, hel⟩ := DataW.trod_struct f_under hf
  obtain ⟨f1, f2, f3, f4, f5, f6, hfs, e1, e2, e3, e4, e5, e6⟩ := fields6n f_fields
  injection e1 with e1a e1; injection e1 with e1b e1c
  injection e2 with e2a e2; injection e2 with e2b e2c
  injection e3 with e3a e3; injection e3 with e3b e3c
  injection e4 with e4a e4; injection e4 with e4b e4c
  injection e5 with e5a e5; injection e5 with e5b e5c
  injection e6 with e6a e6; injection e6 with e6b e6c
  have hfs' : Tryz.prog.fieldsOf 43 = #[f1, f2, f3, f4, f5, f6] := by apply Array.toList_inj.1; rw [hfs]
  rw [hfs'] at hel hn
  have hn6 : xs.length = 6 := by simpa using hn
  have d0 := hel 0 f1 rfl
  have d1 := hel 1 f2 rfl
  have d2 := hel 2 f3 rfl
  have d3 := hel 3 f4 rfl
  have d4 := hel 4 f5 rfl
  have d5 := hel 5 f6 rfl
  rw [e1a, e1b, cs1, List.getElem?_eq_getElem (show 0 < xs.length by omega)] at d0
  rw [e2a, e2b, ci, List.getElem?_eq_getElem (show 1 < xs.length by omega)] at d1
  rw [e3a, e3b, ci, List.getElem?_eq_getElem (show 2 < xs.length by omega)] at d2
  rw [e4a, e4b, cc, List.getElem?_eq_getElem (show 3 < xs.length by omega)] at d3
  rw [e5a, e5b, cl, List.getElem?_eq_getElem (show 4 < xs.length by omega)] at d4
  rw [e6a, e6b, ch, List.getElem?_eq_getElem (show 5 < xs.length by omega)] at d5
  obtain ⟨s, h0, _, _⟩ := DataW.trod_string Tryz.underlying9 d0
  obtain ⟨k, h1, _, _⟩ := DataW.trod_int Tryz.underlying3 d1
  obtain ⟨e, h2, _, _⟩ := DataW.trod_int Tryz.underlying3 d2
  obtain ⟨C, h3, hC, hw⟩ := zs_c d3
  obtain ⟨M, h4⟩ := lk_c d4
  obtain ⟨A, n, c, hs, h5, hcame, hnc⟩ := holds_c d5
  have hlen := hcame.1
  subst hlen
  refine ⟨⟨s, k, e, C, M, hs⟩, A, c, ?_, hC, hcame, hnc, hw⟩
  show l = _
  rw [show l = l.drop 0 from rfl, drop_cut l 0 1, h0, show 0 + 1 = 1 from rfl, drop_cut l 1 1, h1, show 1 + 1 = 2 from rfl, drop_cut l 2 1, h2, show 2 + 1 = 3 from rfl, drop_cut l 3 579, h3, show 3 + 579 = 582 from rfl, drop_cut l 582 4, h4, show 582 + 4 = 586 from rfl, drop_cut l 586 1, h5,
  List.drop_eq_nil_of_le (show l.length ≤ 586 + 1 by omega)]
  rfl
/-- The numbers of a field that came in are ints. -/
theorem ok_of_wf {p : Pf} {A : Option Addr} {c : Nat} (h : ∀ z ∈ p.C, (Lit.int .i64 z).wf = true) : (p.fd A c).ok := fun z hz => by
  have h1 := h z (List.mem_of_mem_drop (List.mem_of_mem_take hz))
  simp [Lit.wf] at h1
  first | exact h1 | (have h2 := h1; simp [IntKind.inRange] at h2; omega)

theorem below_dn (w : World) (q : Nat) : Below w.heap.size w (w.drewN q) := ⟨rfl, rfl, rfl, Nat.le_refl _, fun _ _ => rfl⟩
theorem below_new (w : World) (o : Obj) : Below w.heap.size w (w.alloc o) := (Below.refl _ _).alloc (Nat.le_refl _) _
/-- All is as it was but for new blocks, and those of F. -/
structure Mf (F : Nat → Prop) (w w' : World) : Prop where
  os : w'.os = w.os
  tape : w'.tape = w.tape
  output : w'.output = w.output
  size : w.heap.size ≤ w'.heap.size
  block : ∀ k, k < w.heap.size → ¬ F k → w'.heap[k]? = w.heap[k]?
theorem Mf.refl (F : Nat → Prop) (w : World) : Mf F w w := ⟨rfl, rfl, rfl, Nat.le_refl _, fun _ _ _ => rfl⟩
theorem Mf.bel {w u : World} (h : Mf (fun _ => False) w u) : Below w.heap.size w u := ⟨h.os, h.tape, h.output, h.size, fun k hk => h.block k hk id⟩
theorem Mf.of {F : Nat → Prop} {w u : World} (h : Below w.heap.size w u) : Mf F w u := ⟨h.os, h.tape, h.output, h.size, fun k hk _ => h.block k hk⟩
/-- A thing in memory: its blocks, and what holds of it as long as they stay. -/
structure Th where
  foot : Nat → Prop
  P : World → Prop
  stay : ∀ {u u' : World}, P u → (∀ k, foot k → u'.heap[k]? = u.heap[k]?) → P u'
  lt : ∀ {u : World} {k : Nat}, P u → foot k → k < u.heap.size
/-- Cells in a block of its own. -/
def Th.cel (b : Nat) (t : TypeId) (cs : List Value) : Th := ⟨fun k => k = b, fun u => Cel u b t cs, fun h hb => (hb b rfl).trans h, fun h hk => by subst hk; exact h.lt⟩
theorem row_lt {u : World} {v : Value} {n : Nat} {xs : List Value} {t : TypeId} {base s : Nat} (h : u.ownsRow base t s v n xs) {k : Nat} (hk : v.ownBlock = some k) : k < u.heap.size ∧ base ≤ k := by
  rcases h.2 with ⟨rfl, _⟩ | ⟨g, cap, cur, rfl, h1, h2, _⟩
  · simp [Value.ownBlock] at hk
  · simp [Value.ownBlock] at hk
    subst hk
    exact ⟨(Array.getElem?_eq_some_iff.1 h2).1, h1⟩
theorem row_stay {u u' : World} {v : Value} {n : Nat} {xs : List Value} {t : TypeId} {base s : Nat} (h : u.ownsRow base t s v n xs) (hb : ∀ k, v.ownBlock = some k → u'.heap[k]? = u.heap[k]?) : u'.ownsRow base t s v n xs := by
  refine ⟨h.1, ?_⟩
  rcases h.2 with h1 | ⟨g, cap, cur, rfl, h2, h3, h4⟩
  · exact .inl h1
  · exact .inr ⟨g, cap, cur, rfl, h2, by rw [hb g (by simp [Value.ownBlock])]; exact h3, h4⟩
theorem row_base {u : World} {v : Value} {n : Nat} {xs : List Value} {t : TypeId} {base base' s : Nat} (h : u.ownsRow base t s v n xs) (hb : ∀ k, v.ownBlock = some k → base' ≤ k) : u.ownsRow base' t s v n xs := by
  refine ⟨h.1, ?_⟩
  rcases h.2 with h1 | ⟨g, cap, cur, rfl, h2, h3⟩
  · exact .inl h1
  · exact .inr ⟨g, cap, cur, rfl, hb g (by simp [Value.ownBlock]), h3⟩
/-- What is kept. -/
structure Kg (w : World) (F : Nat → Prop) (own ro : List Th) (u : World) : Prop where
  mf : Mf F w u
  all : ∀ t ∈ own, t.P u
  lone : ∀ (i j : Nat) (x y : Th), own[i]? = some x → own[j]? = some y → i ≠ j → ∀ k, x.foot k → ¬ y.foot k
  cov : ∀ t ∈ own, ∀ k, t.foot k → F k ∨ w.heap.size ≤ k
  look : ∀ t ∈ ro, t.P u
  free : ∀ t ∈ ro, ∀ e ∈ own, ∀ k, t.foot k → ¬ e.foot k
section
variable {w u u' : World} {F : Nat → Prop} {own ro : List Th}
theorem Kg.start (w : World) : Kg w (fun _ => False) [] [] w := ⟨Mf.refl _ _, by simp, by simp, by simp, by simp, by simp⟩
theorem Kg.get (h : Kg w F own ro u) (i : Nat) {t : Th} (hi : own[i]? = some t) : t.P u := h.all _ (List.mem_of_getElem? hi)
theorem Kg.see (h : Kg w F own ro u) (i : Nat) {t : Th} (hi : ro[i]? = some t) : t.P u := h.look _ (List.mem_of_getElem? hi)
theorem Kg.celAt (h : Kg w F own ro u) (i : Nat) {b : Nat} {t : TypeId} {cs : List Value} (hi : own[i]? = some (Th.cel b t cs)) : Cel u b t cs := h.get i hi
theorem set_getT {own : List Th} {i : Nat} {x' : Th} {j : Nat} {x : Th} (hj : (own.set i x')[j]? = some x) : (j = i ∧ x = x') ∨ (j ≠ i ∧ own[j]? = some x) := by
  rw [List.getElem?_set] at hj
  split at hj
  · rename_i hij
    split at hj
    · injection hj with hj; exact .inl ⟨hij.symm, hj.symm⟩
    · cases hj
  · rename_i hij
    exact .inr ⟨fun q => hij q.symm, hj⟩
/-- One of them changed. -/
theorem Kg.move (h : Kg w F own ro u) (i : Nat) {x x' : Th} (hi : own[i]? = some x) (hm : Mf x.foot u u') (hx : x'.P u') (hnx : ∀ k, x'.foot k → x.foot k ∨ u.heap.size ≤ k) : Kg w F (own.set i x') ro u' := by
  have hmi := List.mem_of_getElem? hi
  have hold : ∀ {a : Nat} {t : Th}, a ≠ i → own[a]? = some t → t.P u' ∧ ∀ k, t.foot k → ¬ x'.foot k := by
    intro a t ha ht
    have hp := h.get a ht
    have hd : ∀ k, t.foot k → ¬ x.foot k := h.lone a i t x ht hi ha
    refine ⟨t.stay hp fun k hk => hm.block k (t.lt hp hk) (hd k hk), fun k hk hc => ?_⟩
    rcases hnx k hc with h1 | h1
    · exact hd k hk h1
    · have := t.lt hp hk; omega
  refine ⟨⟨hm.os.trans h.mf.os, hm.tape.trans h.mf.tape, hm.output.trans h.mf.output, Nat.le_trans h.mf.size hm.size, fun k hk hF => ?_⟩, fun t ht => ?_, ?_, fun t ht k hk => ?_, fun t ht => ?_, fun t ht e he k hk hc => ?_⟩
  · refine (hm.block k (Nat.lt_of_lt_of_le hk h.mf.size) fun hc => ?_).trans (h.mf.block k hk hF)
    rcases h.cov x hmi k hc with h1 | h1
    · exact hF h1
    · omega
  · obtain ⟨a, ha⟩ := List.mem_iff_getElem?.1 ht
    rcases set_getT ha with ⟨_, rfl⟩ | ⟨h1, h2⟩
    · exact hx
    · exact (hold h1 h2).1
  · intro a b s t ha hb hab k hs ht
    rcases set_getT ha with ⟨rfl, rfl⟩ | ⟨h1, h2⟩ <;> rcases set_getT hb with ⟨rfl, rfl⟩ | ⟨h3, h4⟩
    · exact hab rfl
    · exact (hold h3 h4).2 k ht hs
    · exact (hold h1 h2).2 k hs ht
    · exact h.lone a b s t h2 h4 hab k hs ht
  · obtain ⟨a, ha⟩ := List.mem_iff_getElem?.1 ht
    rcases set_getT ha with ⟨_, rfl⟩ | ⟨h1, h2⟩
    · exact (hnx k hk).elim (h.cov x hmi k) fun h1 => .inr (Nat.le_trans h.mf.size h1)
    · exact h.cov t (List.mem_of_getElem? h2) k hk
  · have hp := h.look t ht
    exact t.stay hp fun k hk => hm.block k (t.lt hp hk) (h.free t ht x hmi k hk)
  · have hl := t.lt (h.look t ht) hk
    obtain ⟨a, ha⟩ := List.mem_iff_getElem?.1 he
    rcases set_getT ha with ⟨_, rfl⟩ | ⟨h1, h2⟩
    · rcases hnx k hc with h1 | h1
      · exact h.free t ht x hmi k hk h1
      · omega
    · exact h.free t ht e (List.mem_of_getElem? h2) k hk hc
/-- Nothing that lay there changed. -/
theorem Kg.call (h : Kg w F own ro u) (hb : Below u.heap.size u u') : Kg w F own ro u' :=
  ⟨⟨hb.os.trans h.mf.os, hb.tape.trans h.mf.tape, hb.output.trans h.mf.output, Nat.le_trans h.mf.size hb.size, fun k hk hF => (hb.block k (Nat.lt_of_lt_of_le hk h.mf.size)).trans (h.mf.block k hk hF)⟩,
   fun t ht => t.stay (h.all t ht) fun k hk => hb.block k (t.lt (h.all t ht) hk), h.lone, h.cov, fun t ht => t.stay (h.look t ht) fun k hk => hb.block k (t.lt (h.look t ht) hk), h.free⟩
theorem Kg.drewN (h : Kg w F own ro u) (q : Nat) : Kg w F own ro (u.drewN q) := h.call (below_dn _ q)
theorem Kg.drew (h : Kg w F own ro u) : Kg w F own ro u.drew := h.call (below_dn _ 1)
/-- A thing more, apart from all. -/
theorem Kg.cons (h : Kg w F own ro u) {t : Th} (ht : t.P u) (hc : ∀ k, t.foot k → F k ∨ w.heap.size ≤ k) (ho : ∀ e ∈ own, ∀ k, t.foot k → ¬ e.foot k) (hr : ∀ r ∈ ro, ∀ k, r.foot k → ¬ t.foot k) : Kg w F (t :: own) ro u := by
  refine ⟨h.mf, fun x hx => ?_, ?_, fun x hx => ?_, h.look, fun r hr' e he => ?_⟩
  · rcases List.mem_cons.1 hx with rfl | hx
    · exact ht
    · exact h.all x hx
  · intro i j x y hi hj hij k hx hy
    match i, j, hi, hj with
    | 0, 0, _, _ => exact absurd rfl hij
    | 0, j + 1, hi, hj =>
      simp only [List.getElem?_cons_zero, Option.some.injEq, List.getElem?_cons_succ] at hi hj
      subst hi
      exact ho y (List.mem_of_getElem? hj) k hx hy
    | i + 1, 0, hi, hj =>
      simp only [List.getElem?_cons_zero, Option.some.injEq, List.getElem?_cons_succ] at hi hj
      subst hj
      exact ho x (List.mem_of_getElem? hi) k hy hx
    | i + 1, j + 1, hi, hj =>
      simp only [List.getElem?_cons_succ] at hi hj
      exact h.lone i j x y hi hj (by omega) k hx hy
  · rcases List.mem_cons.1 hx with rfl | hx
    · exact hc
    · exact h.cov x hx
  · rcases List.mem_cons.1 he with rfl | he
    · exact hr r hr'
    · exact h.free r hr' e he
/-- What a call made, as a thing of one's own. -/
theorem Kg.add (h : Kg w F own ro u) (hb : Below u.heap.size u u') {t : Th} (ht : t.P u') (hn : ∀ k, t.foot k → u.heap.size ≤ k) : Kg w F (t :: own) ro u' :=
  (h.call hb).cons ht (fun k hk => .inr (Nat.le_trans h.mf.size (hn k hk))) (fun e he k hk hc => by have := e.lt (h.all e he) hc; have := hn k hk; omega) (fun r hr k hk hc => by have := r.lt (h.look r hr) hk; have := hn k hc; omega)
/-- A thing more that is only read. -/
theorem Kg.also (h : Kg w F own ro u) {t : Th} (ht : t.P u) (hf : ∀ e ∈ own, ∀ k, t.foot k → ¬ e.foot k) : Kg w F own (t :: ro) u :=
  ⟨h.mf, h.all, h.lone, h.cov, fun x hx => by
    rcases List.mem_cons.1 hx with rfl | hx
    · exact ht
    · exact h.look x hx, fun x hx => by
    rcases List.mem_cons.1 hx with rfl | hx
    · exact hf
    · exact h.free x hx⟩
/-- What a call made, to be read alone. -/
theorem Kg.made (h : Kg w F own ro u) (hb : Below u.heap.size u u') {t : Th} (ht : t.P u') (hn : ∀ k, t.foot k → u.heap.size ≤ k) : Kg w F own (t :: ro) u' :=
  (h.call hb).also ht fun e he k hk hc => by have := e.lt (h.all e he) hc; have := hn k hk; omega
/-- Fewer are looked at. -/
theorem Kg.sub (h : Kg w F own ro u) {ro' : List Th} (hr : ∀ r ∈ ro', r ∈ ro) : Kg w F own ro' u := ⟨h.mf, h.all, h.lone, h.cov, fun r h1 => h.look r (hr r h1), fun r h1 => h.free r (hr r h1)⟩
theorem Kg.tail {x : Th} (h : Kg w F (x :: own) ro u) : Kg w F own ro u :=
  ⟨h.mf, fun y hy => h.all y (List.mem_cons_of_mem _ hy), fun i j x y hi hj hij => h.lone (i + 1) (j + 1) x y (by simpa using hi) (by simpa using hj) (by omega), fun y hy => h.cov y (List.mem_cons_of_mem _ hy), h.look, fun r hr e he => h.free r hr e (List.mem_cons_of_mem _ he)⟩
/-- What lay there when the call began, to be read alone. -/
theorem Kg.old (h : Kg w (fun _ => False) own ro u) {t : Th} (ht : t.P w) : Kg w (fun _ => False) own (t :: ro) u :=
  h.also (t.stay ht fun k hk => h.mf.bel.block k (t.lt ht hk)) fun e he k hk hc => by
    have := t.lt ht hk
    have := (h.cov e he k hc).resolve_left id
    omega
/-- Another order. -/
theorem Kg.swap {x y : Th} (h : Kg w F (x :: y :: own) ro u) : Kg w F (y :: x :: own) ro u := by
  have hxy : ∀ k, y.foot k → ¬ x.foot k := h.lone 1 0 y x rfl rfl (by omega)
  have hmem : ∀ t ∈ x :: own, t ∈ x :: y :: own := fun t ht => (List.mem_cons.1 ht).elim (fun e => e ▸ List.mem_cons_self) fun h1 => List.mem_cons_of_mem _ (List.mem_cons_of_mem _ h1)
  have h2 : Kg w F (x :: own) ro u := ⟨h.mf, fun t ht => h.all t (hmem t ht), ?_, fun t ht => h.cov t (hmem t ht), h.look, fun r hr e he => h.free r hr e (hmem e he)⟩
  · refine h2.cons (h.get 1 rfl) (h.cov y (by simp)) (fun e he => ?_) (fun r hr => h.free r hr y (by simp))
    rcases List.mem_cons.1 he with rfl | he
    · exact hxy
    · obtain ⟨a, ha⟩ := List.mem_iff_getElem?.1 he
      exact h.lone 1 (a + 2) y e rfl (by simpa using ha) (by omega)
  · intro i j s t hi hj hij
    have hsh : ∀ {i : Nat} {s : Th}, (x :: own)[i]? = some s → (x :: y :: own)[if i = 0 then 0 else i + 1]? = some s := by
      intro i s hi
      cases i with
      | zero => simpa using hi
      | succ i => simpa using hi
    exact h.lone _ _ s t (hsh hi) (hsh hj) (by split <;> split <;> omega)
/-- Cells of a kept block are written. -/
theorem Kg.setCell (h : Kg w F own ro u) (i : Nat) {b : Nat} {t : TypeId} {R : List Value} (hi : own[i]? = some (Th.cel b t R)) (o : Nat) (v : Value) {S : List Value} (hS : R.set o v = S) : Kg w F (own.set i (Th.cel b t S)) ro (u.setCell ⟨b, o, none⟩ v) := by
  subst hS
  exact h.move i hi ⟨rfl, rfl, rfl, by simp, fun k _ hk => heap_setCell_other u ⟨b, o, none⟩ k v (fun e => hk e)⟩ ((h.celAt i hi).setCell o v) (fun k hk => .inl hk)
theorem setCells_meta (b : Nat) : ∀ (vs : List Value) (o : Nat) (u : World), (u.setCells b o vs).os = u.os ∧ (u.setCells b o vs).tape = u.tape ∧ (u.setCells b o vs).output = u.output ∧ (u.setCells b o vs).heap.size = u.heap.size
  | [], _, _ => ⟨rfl, rfl, rfl, rfl⟩
  | v :: vs, o, u => by
    obtain ⟨h1, h2, h3, h4⟩ := setCells_meta b vs (o + 1) (u.setCell ⟨b, o, none⟩ v)
    exact ⟨h1, h2, h3, h4.trans (by simp)⟩
theorem Kg.setCells (h : Kg w F own ro u) (i : Nat) {b : Nat} {t : TypeId} {R : List Value} (hi : own[i]? = some (Th.cel b t R)) (o : Nat) (vs : List Value) {S : List Value} (hS : spl R o vs = S) : Kg w F (own.set i (Th.cel b t S)) ro (u.setCells b o vs) := by
  subst hS
  obtain ⟨h1, h2, h3, h4⟩ := setCells_meta b vs o u
  exact h.move i hi ⟨h1, h2, h3, by rw [h4]; exact Nat.le_refl _, fun k _ hk => setCells_else b vs o u k (fun e => hk e)⟩ ((h.celAt i hi).setCells vs o) (fun k hk => .inl hk)
theorem Kg.new (h : Kg w F own ro u) {t : TypeId} {cs : List Value} {n : Nat} (hn : n = u.heap.size) : Kg w F (Th.cel n t cs :: own) ro (u.alloc (.cells cs.toArray t)) :=
  h.add (below_new _ _) (by subst hn; exact Cel.new u t cs) (fun k hk => by subst hn; exact Nat.le_of_eq hk.symm)
end

/-! ### Slices of fields that are read. -/
theorem rng_below {w u : World} {b off : Nat} {xs : List Value} (h : w.rangeAt b off xs) (hb : Below w.heap.size w u) : u.rangeAt b off xs := fun j v hv => (hb.cell (cell_lt (h j v hv))).trans (h j v hv)
theorem rng_stay {w u : World} {b off : Nat} {xs : List Value} (h : w.rangeAt b off xs) (hb : u.heap[b]? = w.heap[b]?) : u.rangeAt b off xs := fun j v hv => (World.cell?_of_block (w := w) (w' := u) (a := ⟨b, off + j, none⟩) hb).trans (h j v hv)
/-- A slice of fields reads so: each field's cells, and its holds. -/
def FR (w : World) (A : Option Addr) (n : Nat) (qs : List Q) : Prop :=
  qs.length = n ∧ (∀ x ∈ qs, x.1.full ∧ Row w x.2.1 x.1.hs.length x.1.hs) ∧ (n = 0 ∨ ∃ b off : Nat, A = some ⟨b, off, none⟩ ∧ ∀ i x, qs[i]? = some x → w.rangeAt b (off + i * 587) (x.1.fd x.2.1 x.2.2).cells)
theorem FR.below {w u : World} {A : Option Addr} {n : Nat} {qs : List Q} (h : FR w A n qs) (hb : Below w.heap.size w u) : FR u A n qs := by
  obtain ⟨h1, h2, h3⟩ := h
  refine ⟨h1, fun x hx => ⟨(h2 x hx).1, (h2 x hx).2.call hb⟩, ?_⟩
  rcases h3 with h3 | ⟨b, off, rfl, h3⟩
  · exact .inl h3
  · exact .inr ⟨b, off, rfl, fun i x hx => rng_below (h3 i x hx) hb⟩
theorem FR.full {w : World} {A : Option Addr} {n : Nat} {qs : List Q} (h : FR w A n qs) {i : Nat} {x : Q} (hi : qs[i]? = some x) : x.1.full := (h.2.1 x (List.mem_of_getElem? hi)).1
theorem FR.row {w : World} {A : Option Addr} {n : Nat} {qs : List Q} (h : FR w A n qs) {i : Nat} {x : Q} (hi : qs[i]? = some x) : Row w x.2.1 x.1.hs.length x.1.hs := (h.2.1 x (List.mem_of_getElem? hi)).2
theorem FR.base {w : World} {A : Option Addr} {n : Nat} {qs : List Q} (h : FR w A n qs) (hn : n ≠ 0) : ∃ b off : Nat, A = some ⟨b, off, none⟩ ∧ ∀ i x, qs[i]? = some x → w.rangeAt b (off + i * 587) (x.1.fd x.2.1 x.2.2).cells := by
  rcases h.2.2 with h3 | h3
  · exact absurd h3 hn
  · exact h3
theorem FR.get {w : World} {A : Option Addr} {n : Nat} {qs : List Q} (h : FR w A n qs) {i : Nat} (hi : i < n) : ∃ x, qs[i]? = some x := ⟨_, List.getElem?_eq_getElem (by rw [h.1]; exact hi)⟩
theorem FR.nil (w : World) (A : Option Addr) : FR w A 0 [] := ⟨rfl, by simp, .inl rfl⟩
theorem rng_lt {w : World} {b off : Nat} {p : Pf} {A : Option Addr} {c : Nat} (h : w.rangeAt b off (p.fd A c).cells) : b < w.heap.size := cell_lt (a := ⟨b, off + 0, none⟩) (h 0 _ Pf.cn)
/-- A slice of fields, as a thing. -/
def Th.fr (A : Option Addr) (n : Nat) (qs : List Q) : Th :=
  ⟨fun k => (n ≠ 0 ∧ ∃ a, A = some a ∧ a.block = k) ∨ ∃ x ∈ qs, x.1.hs.length ≠ 0 ∧ ∃ a, x.2.1 = some a ∧ a.block = k, fun u => FR u A n qs, fun {u u'} h hb => by
    obtain ⟨h1, h2, h3⟩ := h
    refine ⟨h1, fun x hx => ⟨(h2 x hx).1, (h2 x hx).2.else fun a ha h0 => hb _ (.inr ⟨x, hx, by omega, a, ha, rfl⟩)⟩, ?_⟩
    rcases h3 with h3 | ⟨b, off, rfl, h3⟩
    · exact .inl h3
    · by_cases hn : n = 0
      · exact .inl hn
      · exact .inr ⟨b, off, rfl, fun i x hx => rng_stay (h3 i x hx) (hb b (.inl ⟨hn, _, rfl, rfl⟩))⟩, fun {u k} h hk => by
    obtain ⟨h1, h2, h3⟩ := h
    rcases hk with ⟨hn, a, ha, rfl⟩ | ⟨x, hx, h0, a, ha, rfl⟩
    · rcases h3 with h3 | ⟨b, off, rfl, h3⟩
      · exact absurd h3 hn
      · injection ha with ha
        subst ha
        exact rng_lt (h3 0 _ (List.getElem?_eq_getElem (by omega)))
    · exact (h2 x hx).2.lt ha (by omega)⟩
/-- A slice of holds, as a thing. -/
def Th.hr (A : Option Addr) (hs : List Ho) : Th :=
  ⟨fun k => hs.length ≠ 0 ∧ ∃ a, A = some a ∧ a.block = k, fun u => Row u A hs.length hs, fun h hb => h.else fun a ha h0 => hb _ ⟨by omega, a, ha, rfl⟩, fun h hk => by
    obtain ⟨h0, a, ha, rfl⟩ := hk
    exact h.lt ha (by omega)⟩
/-- The holds of fields, as a thing. -/
def Th.hq (qs : List Q) : Th :=
  ⟨fun k => ∃ x ∈ qs, x.1.hs.length ≠ 0 ∧ ∃ a, x.2.1 = some a ∧ a.block = k, fun u => ∀ x ∈ qs, Row u x.2.1 x.1.hs.length x.1.hs, fun h hb x hx => (h x hx).else fun a ha h0 => hb _ ⟨x, hx, by omega, a, ha, rfl⟩, fun h hk => by
    obtain ⟨x, hx, h0, a, ha, rfl⟩ := hk
    exact (h x hx).lt ha (by omega)⟩
/-- A row of the call's own, of any elements. -/
def Th.og (t : TypeId) (s : Nat) (v : Value) (n : Nat) (cs : List Value) : Th :=
  ⟨fun k => v.ownBlock = some k, fun u => u.ownsRow 0 t s v n cs, fun h hb => row_stay h hb, fun h hk => (row_lt h hk).1⟩
abbrev Th.of (v : Value) (qs : List Q) : Th := Th.og 43 587 v qs.length (fcs qs)
theorem og_nil (u : World) (t : TypeId) (s : Nat) : u.ownsRow 0 t s (.slice none 0 0) 0 [] := ⟨by simp, .inl ⟨rfl, rfl⟩⟩
theorem og_len {u : World} {t : TypeId} {s : Nat} {v : Value} {n base : Nat} {cs : List Value} (h : u.ownsRow base t s v n cs) : ∃ A c, v = .slice A n c := by
  rcases h.2 with ⟨rfl, rfl⟩ | ⟨g, cap, cur, rfl, _⟩
  · exact ⟨none, 0, rfl⟩
  · exact ⟨_, _, rfl⟩
theorem og_cell {u : World} {t : TypeId} {s : Nat} {A : Option Addr} {n m c base : Nat} {cs : List Value} (h : u.ownsRow base t s (.slice A m c) n cs) {j : Nat} {x : Value} (hj : cs[j]? = some x) : ∃ g, A = some ⟨g, 0, none⟩ ∧ u.cell? ⟨g, j, none⟩ = some x ∧ base ≤ g := by
  have hlt := (List.getElem?_eq_some_iff.1 hj).1
  rcases h.2 with ⟨e, rfl⟩ | ⟨g, cap, cur, e, hb, hg, hn, hm, hs, ht⟩
  · rw [h.1] at hlt; omega
  · injection e with e1 e2 e3
    subst e1
    refine ⟨g, rfl, ?_, hb⟩
    rw [cell_of_row u g j _ t (0, 0) hg]
    rw [← ht] at hj
    rw [List.getElem?_take] at hj
    split at hj
    · simpa using hj
    · cases hj
theorem of_fr {u : World} {base : Nat} {A : Option Addr} {n c : Nat} {qs : List Q} (h : u.ownsRow base 43 587 (.slice A n c) qs.length (fcs qs)) (hf : ∀ x ∈ qs, x.1.full) (hr : ∀ x ∈ qs, Row u x.2.1 x.1.hs.length x.1.hs) : FR u A qs.length qs := by
  refine ⟨rfl, fun x hx => ⟨hf x hx, hr x hx⟩, ?_⟩
  by_cases h0 : qs.length = 0
  · exact .inl h0
  · have h0' : 0 < qs.length := by omega
    obtain ⟨x0, hx0⟩ : ∃ x0, qs[0]? = some x0 := ⟨_, List.getElem?_eq_getElem h0'⟩
    have hc0 : (fcs qs)[0 * 587 + 0]? = some (.string x0.1.nm) := fcs_get hf hx0 0 _ Pf.cn
    obtain ⟨g, rfl, _, _⟩ := og_cell h hc0
    refine .inr ⟨g, 0, rfl, fun i x hx j v hv => ?_⟩
    have hcj : (fcs qs)[i * 587 + j]? = some v := fcs_get hf hx j v hv
    obtain ⟨g', e, hc, _⟩ := og_cell h hcj
    have e2 : g = g' := congrArg (fun a : Option Addr => a.elim 0 Addr.block) e
    rw [Nat.zero_add, e2]
    exact hc
/-- A row of fields that a call made. -/
structure OF (w : World) (v : Value) (qs : List Q) (u : World) : Prop where
  kg : Kg w (fun _ => False) [Th.of v qs] [Th.hq qs] u
  full : ∀ x ∈ qs, x.1.full
  new : ∀ k, (Th.hq qs).foot k → w.heap.size ≤ k
theorem OF.bel {w u : World} {v : Value} {qs : List Q} (h : OF w v qs u) : Below w.heap.size w u := h.kg.mf.bel
theorem OF.fr {w u : World} {v : Value} {qs : List Q} (h : OF w v qs u) : ∃ A c, v = .slice A qs.length c ∧ FR u A qs.length qs ∧ ∀ k, (Th.fr A qs.length qs).foot k → w.heap.size ≤ k := by
  have ho : u.ownsRow 0 43 587 v qs.length (fcs qs) := h.kg.get 0 rfl
  obtain ⟨A, c, e⟩ := og_len ho
  subst e
  refine ⟨A, c, rfl, of_fr ho h.full (h.kg.see 0 rfl), fun k hk => ?_⟩
  rcases hk with ⟨hn, a, ha, rfl⟩ | hk
  · refine (h.kg.cov _ List.mem_cons_self a.block ?_).resolve_left id
    show (Value.slice A qs.length c).ownBlock = some a.block
    subst ha; rfl
  · exact h.new k hk
section
variable {w u u' : World} {F : Nat → Prop} {own ro : List Th}
/-- What a call made: the row as a thing of one's own, its fields' holds to be read. -/
theorem Kg.ofAdd (h : Kg w F own ro u) {v : Value} {qs : List Q} (ho : OF u v qs u') : Kg w F (Th.of v qs :: own) (Th.hq qs :: ro) u' :=
  (h.add (t := Th.of v qs) ho.bel (ho.kg.get 0 rfl) (fun k hk => (ho.kg.cov _ List.mem_cons_self k hk).resolve_left id)).also (t := Th.hq qs) (ho.kg.see 0 rfl) (fun e he k hk hc => by
    rcases List.mem_cons.1 he with rfl | he
    · exact ho.kg.free _ List.mem_cons_self _ List.mem_cons_self k hk hc
    · have := e.lt (h.all e he) hc
      have := ho.new k hk
      omega)
/-- What a call made, to be read alone. -/
theorem Kg.frMade (h : Kg w F own ro u) (hb : Below u.heap.size u u') {A : Option Addr} {n : Nat} {qs : List Q} (hr : FR u' A n qs) (hn : ∀ k, (Th.fr A n qs).foot k → u.heap.size ≤ k) : Kg w F own (Th.fr A n qs :: ro) u' := h.made hb (t := Th.fr A n qs) hr hn
theorem Kg.fr (h : Kg w F own ro u) (i : Nat) {A : Option Addr} {n : Nat} {qs : List Q} (hi : ro[i]? = some (Th.fr A n qs)) : FR u A n qs := h.see i hi
theorem Kg.hr (h : Kg w F own ro u) (i : Nat) {A : Option Addr} {hs : List Ho} (hi : ro[i]? = some (Th.hr A hs)) : Row u A hs.length hs := h.see i hi
theorem Kg.ogAt (h : Kg w F own ro u) (i : Nat) {t : TypeId} {s : Nat} {v : Value} {n : Nat} {cs : List Value} (hi : own[i]? = some (Th.og t s v n cs)) : u.ownsRow 0 t s v n cs := h.get i hi
/-- Holds that are read, beside those of fields. -/
theorem Kg.hqMore {A : Option Addr} {hs : List Ho} {qs : List Q} (h : Kg w F own (Th.hr A hs :: Th.hq qs :: ro) u) {p : Pf} {c : Nat} (hp : p.hs = hs) : Kg w F own (Th.hq (qs ++ [(p, A, c)]) :: ro) u := by
  subst hp
  refine Kg.also (h.sub fun r hr => List.mem_cons_of_mem _ (List.mem_cons_of_mem _ hr)) (t := Th.hq (qs ++ [(p, A, c)])) ?_ (fun e he k hk hc => ?_)
  · intro x hx
    rcases List.mem_append.1 hx with hx | hx
    · exact h.look (Th.hq qs) (by simp) x hx
    · obtain rfl := List.mem_singleton.1 hx
      exact h.look (Th.hr A p.hs) (by simp)
  · obtain ⟨x, hx, hk⟩ := hk
    rcases List.mem_append.1 hx with hx | hx
    · exact h.free (Th.hq qs) (by simp) e he k ⟨x, hx, hk⟩ hc
    · obtain rfl := List.mem_singleton.1 hx
      exact h.free (Th.hr A p.hs) (by simp) e he k hk hc
end

/-! ### What the operations on kept things do. -/
/-- Cells of one type alone. -/
def cellK (ty : TypeId) : Bool := ty == 3 || ty == 9 || ty == 41 || ty == 103 || ty == 46 || ty == 136
theorem run_load_k {W : World} {ad : Addr} {v : Value} {ty : TypeId} (ht : cellK ty = true) (hc : W.cell? ad = some v) : (Instr.loadAt ty (.pointer (some ad))).run Tryz.prog W = .ok v W := by
  simp only [cellK, Bool.or_eq_true, beq_iff_eq] at ht
  rcases ht with ((((rfl | rfl) | rfl) | rfl) | rfl) | rfl <;> simp [go_sem, hc]
theorem run_store_k {W : World} {ad : Addr} {v v' : Value} {ty : TypeId} (ht : cellK ty = true) (hc : W.cell? ad = some v') (hf : W.frozen? ad = false) (hv : plainV v = true) : (Instr.storeAt ty (.pointer (some ad)) v).run Tryz.prog W = .ok () (W.setCell ad v) := by
  simp only [cellK, Bool.or_eq_true, beq_iff_eq] at ht
  cases v <;> simp only [plainV, Bool.false_eq_true] at hv <;> rcases ht with ((((rfl | rfl) | rfl) | rfl) | rfl) | rfl <;> simp [go_sem, hc, hf]
section
variable {ops : Array Oper} {rest : List Oper} {o : Oper} {a : Act} {w u u' : World} {F : Nat → Prop} {own ro : List Th} {Q : Exit → Act → World → Prop} {K : Act → World → Prop} {S : World → Prop}
/-- A value, boxed. -/
theorem box_k (hk : Kg w F own ro u) {ty : TypeId} (hgd : o.guard = none) (x : Operand) (ho : o.op = .box ty x) {cs : List Value} (hx : a.eval x = .agg cs.toArray)
    (h : ∀ b u', Kg w F (Th.cel b ty cs :: own) ro u' → wpList Tryz.prog ops Q rest (a.put o.dst (.pointer (some ⟨b, 0, none⟩))) u') : wpList Tryz.prog ops Q (o :: rest) a u :=
  wpList_plain hgd fun K hK => by
    have e : (Instr.box ty (.agg cs.toArray)).run Tryz.prog u = .ok (.pointer (some ⟨u.heap.size, 0, none⟩)) (u.alloc (.cells cs.toArray ty)) := by
      simp [Instr.box, newVar, newRow, newObj, Value.cells]
      rfl
    unfold Oper.wp execOp
    simp only [ho, hx, Sem.run_bind, Sem.run_pure, Result.andThen_ok, e]
    exact hK _ _ (h _ _ (hk.new rfl))
/-- A slice, boxed. -/
theorem box_ks (hk : Kg w F own ro u) {ty : TypeId} (hgd : o.guard = none) (x : Operand) (ho : o.op = .box ty x) {A : Option Addr} {n c : Nat} (hx : a.eval x = .slice A n c)
    (h : ∀ b u', Kg w F (Th.cel b ty [.slice A n c] :: own) ro u' → wpList Tryz.prog ops Q rest (a.put o.dst (.pointer (some ⟨b, 0, none⟩))) u') : wpList Tryz.prog ops Q (o :: rest) a u :=
  wpList_plain hgd fun K hK => by
    have e : (Instr.box ty (.slice A n c)).run Tryz.prog u = .ok (.pointer (some ⟨u.heap.size, 0, none⟩)) (u.alloc (.cells [Value.slice A n c].toArray ty)) := by
      simp [Instr.box, newVar, newRow, newObj, Value.cells]
      rfl
    unfold Oper.wp execOp
    simp only [ho, hx, Sem.run_bind, Sem.run_pure, Result.andThen_ok, e]
    exact hK _ _ (h _ _ (hk.new rfl))
/-- A new variable of zeros. -/
theorem alloc_k (hk : Kg w F own ro u) {ty : TypeId} {cs : List Value} (hz : (Tryz.prog.info? ty).bind (·.zero) = some (.agg cs.toArray)) (hgd : o.guard = none) (ho : o.op = .alloc ty)
    (h : ∀ b u', Kg w F (Th.cel b ty cs :: own) ro u' → wpList Tryz.prog ops Q rest (a.put o.dst (.pointer (some ⟨b, 0, none⟩))) u') : wpList Tryz.prog ops Q (o :: rest) a u :=
  wpList_plain hgd fun K hK => by
    have e : (Instr.alloc ty true (.tuple #[])).run Tryz.prog u = .ok (.pointer (some ⟨u.heap.size, 0, none⟩)) (u.alloc (.cells cs.toArray ty)) := by
      cases hq : Tryz.prog.info? ty with
      | none => simp [hq] at hz
      | some i =>
        simp only [hq, Option.bind_some] at hz
        simp [Instr.alloc, zeroValue, typeInfo, hq, hz, newVar, newRow, newObj, Value.cells]
        rfl
    unfold Oper.wp execOp
    simp only [ho, Sem.run_bind, Sem.run_pure, Result.andThen_ok, e]
    exact hK _ _ (h _ _ (hk.new rfl))
/-- A new variable for a function. -/
theorem alloc_kf (hk : Kg w F own ro u) {ty : TypeId} (hz : (Tryz.prog.info? ty).bind (·.zero) = some .nilFunc) (hgd : o.guard = none) (ho : o.op = .alloc ty)
    (h : ∀ b u', Kg w F (Th.cel b ty [.nilFunc] :: own) ro u' → wpList Tryz.prog ops Q rest (a.put o.dst (.pointer (some ⟨b, 0, none⟩))) u') : wpList Tryz.prog ops Q (o :: rest) a u :=
  wpList_plain hgd fun K hK => by
    have e : (Instr.alloc ty true (.tuple #[])).run Tryz.prog u = .ok (.pointer (some ⟨u.heap.size, 0, none⟩)) (u.alloc (.cells [Value.nilFunc].toArray ty)) := by
      cases hq : Tryz.prog.info? ty with
      | none => simp [hq] at hz
      | some i =>
        simp only [hq, Option.bind_some] at hz
        simp [Instr.alloc, zeroValue, typeInfo, hq, hz, newVar, newRow, newObj, Value.cells]
        rfl
    unfold Oper.wp execOp
    simp only [ho, Sem.run_bind, Sem.run_pure, Result.andThen_ok, e]
    exact hK _ _ (h _ _ (hk.new rfl))
/-- A cell is loaded. -/
theorem wp_load_t {ty : TypeId} (ht : cellK ty = true) (x : Operand) (ho : o.op = .load ty x) {ad : Addr} {v : Value} (hx : a.eval x = .pointer (some ad)) (hc : u.cell? ad = some v) (h : K (a.put o.dst v) u) : o.wp Tryz.prog a u K Q := by
  unfold Oper.wp execOp
  simp only [ho, hx, Sem.run_bind, Sem.run_pure, Result.andThen_ok, run_load_k ht hc]
  exact h
theorem load_k1 (hk : Kg w F own ro u) (i : Nat) {ty : TypeId} (ht : cellK ty = true) (x : Operand) (ho : o.op = .load ty x) {b off : Nat} {t : TypeId} {cs : List Value} (hi : own[i]? = some (Th.cel b t cs)) (hx : a.eval x = .pointer (some ⟨b, off, none⟩)) (hw : Region.wanted o (yielded ops a.tmps) = true) {v : Value} (hv : cs[off]? = some v)
    (h : wpList Tryz.prog ops Q rest (a.put o.dst v) u) : wpList Tryz.prog ops Q (o :: rest) a u :=
  BigFrame.wpList_want hw fun _ hK => wp_load_t ht x ho hx ((hk.celAt i hi).cell hv) (hK _ _ h)
/-- A cell that lies there is loaded. -/
theorem load_kt {ty : TypeId} (ht : cellK ty = true) (x : Operand) (ho : o.op = .load ty x) {ad : Addr} {v : Value} (hc : u.cell? ad = some v) (hx : a.eval x = .pointer (some ad)) (hw : Region.wanted o (yielded ops a.tmps) = true)
    (h : wpList Tryz.prog ops Q rest (a.put o.dst v) u) : wpList Tryz.prog ops Q (o :: rest) a u :=
  BigFrame.wpList_want hw fun _ hK => wp_load_t ht x ho hx hc (hK _ _ h)
/-- A part of a kept block is loaded. -/
theorem load_kr (hk : Kg w F own ro u) (i : Nat) {ty : TypeId} {d : TypeDesc} (hu : Tryz.prog.underlying ty = some d) (hd : d.isRow = true) {xs : List Value} (hs : (Tryz.prog.info? ty).map (·.size) = some xs.length)
    (x : Operand) (ho : o.op = .load ty x) {b off : Nat} {t : TypeId} {cs : List Value} (hi : own[i]? = some (Th.cel b t cs)) (hx : a.eval x = .pointer (some ⟨b, off, none⟩)) (hw : Region.wanted o (yielded ops a.tmps) = true) (hr : ∀ j v, xs[j]? = some v → cs[off + j]? = some v)
    (h : wpList Tryz.prog ops Q rest (a.put o.dst (.agg xs.toArray)) u) : wpList Tryz.prog ops Q (o :: rest) a u :=
  BigFrame.wpList_want hw fun _ hK => wp_load_mid ty x ho b off hx xs d ((hk.celAt i hi).range hr) hu hd hs (hK _ _ h)
/-- A part that lies there is loaded. -/
theorem load_kg {ty : TypeId} {d : TypeDesc} (hu : Tryz.prog.underlying ty = some d) (hd : d.isRow = true) {xs : List Value} (hs : (Tryz.prog.info? ty).map (·.size) = some xs.length)
    (x : Operand) (ho : o.op = .load ty x) {b off : Nat} (hr : u.rangeAt b off xs) (hx : a.eval x = .pointer (some ⟨b, off, none⟩)) (hw : Region.wanted o (yielded ops a.tmps) = true)
    (h : wpList Tryz.prog ops Q rest (a.put o.dst (.agg xs.toArray)) u) : wpList Tryz.prog ops Q (o :: rest) a u :=
  BigFrame.wpList_want hw fun _ hK => wp_load_mid ty x ho b off hx xs d hr hu hd hs (hK _ _ h)
/-- A cell of a kept block is stored. -/
theorem wp_store_k1 (hk : Kg w F own ro u) (i : Nat) {ty : TypeId} (ht : cellK ty = true) (hd : o.dst = none) (x y : Operand) (ho : o.op = .store ty x y) {b off : Nat} {t : TypeId} {cs es : List Value} {v : Value} (hi : own[i]? = some (Th.cel b t cs))
    (hx : a.eval x = .pointer (some ⟨b, off, none⟩)) (hy : a.eval y = v) (hv : plainV v = true) (hr : off < cs.length) (hds : cs.set off v = es)
    (h : ∀ u', Kg w F (own.set i (Th.cel b t es)) ro u' → K a u') : o.wp Tryz.prog a u K Q := by
  have hC := hk.celAt i hi
  have e := run_store_k (v := v) ht (hC.cell (List.getElem?_eq_getElem hr)) (hC.frozen off) hv
  unfold Oper.wp execOp
  simp only [ho, hx, hy, Sem.run_bind, Sem.run_pure, Result.andThen_ok, e]
  simpa [hd, Act.put, Oper.upon] using h _ (hk.setCell i hi off v hds)
theorem store_k1 (hk : Kg w F own ro u) (i : Nat) {ty : TypeId} (ht : cellK ty = true) (hgd : o.guard = none) (hd : o.dst = none) (x y : Operand) (ho : o.op = .store ty x y) {b off : Nat} {t : TypeId} {cs es : List Value} {v : Value} (hi : own[i]? = some (Th.cel b t cs))
    (hx : a.eval x = .pointer (some ⟨b, off, none⟩)) (hy : a.eval y = v) (hv : plainV v = true) (hr : off < cs.length) (hds : cs.set off v = es)
    (h : ∀ u', Kg w F (own.set i (Th.cel b t es)) ro u' → wpList Tryz.prog ops Q rest a u') : wpList Tryz.prog ops Q (o :: rest) a u :=
  wpList_plain hgd fun _ hK => wp_store_k1 hk i ht hd x y ho hi hx hy hv hr hds fun u' h' => hK _ _ (h u' h')
/-- A part of a kept block is stored. -/
theorem wp_store_kr (hk : Kg w F own ro u) (i : Nat) {ty : TypeId} {xs : List Value} (hs : (Tryz.prog.info? ty).map (·.size) = some xs.length) (h1 : xs.toArray.all (·.oneCell') = true) (hd : o.dst = none) (x y : Operand) (ho : o.op = .store ty x y)
    {b off : Nat} {t : TypeId} {cs ds : List Value} (hi : own[i]? = some (Th.cel b t cs)) (hx : a.eval x = .pointer (some ⟨b, off, none⟩)) (hy : a.eval y = .agg xs.toArray) (hr : off + xs.length ≤ cs.length) (hds : spl cs off xs = ds)
    (h : ∀ u', Kg w F (own.set i (Th.cel b t ds)) ro u' → K a u') : o.wp Tryz.prog a u K Q :=
  wp_store_mid ty x y ho b off _ hx hy (by simpa using (hk.celAt i hi).there hr) (by simpa using hs) h1 (by rw [hd]; simpa [Act.put] using h _ (hk.setCells i hi off xs hds))
theorem store_kr (hk : Kg w F own ro u) (i : Nat) {ty : TypeId} {xs : List Value} (hs : (Tryz.prog.info? ty).map (·.size) = some xs.length) (h1 : xs.toArray.all (·.oneCell') = true) (hgd : o.guard = none) (hd : o.dst = none) (x y : Operand) (ho : o.op = .store ty x y)
    {b off : Nat} {t : TypeId} {cs ds : List Value} (hi : own[i]? = some (Th.cel b t cs)) (hx : a.eval x = .pointer (some ⟨b, off, none⟩)) (hy : a.eval y = .agg xs.toArray) (hr : off + xs.length ≤ cs.length) (hds : spl cs off xs = ds)
    (h : ∀ u', Kg w F (own.set i (Th.cel b t ds)) ro u' → wpList Tryz.prog ops Q rest a u') : wpList Tryz.prog ops Q (o :: rest) a u :=
  wpList_plain hgd fun _ hK => wp_store_kr hk i hs h1 hd x y ho hi hx hy hr hds fun u' h' => hK _ _ (h u' h')
/-- Yields: a cell, a part. -/
theorem yield_k {ty : TypeId} (ht : cellK ty = true) {ad : Addr} {v : Value} (hS : ∀ u, S u → u.cell? ad = some v) (x : Operand) (ho : o.op = .load ty x) (hx : a.eval x = .pointer (some ad)) (hw : Region.wanted o (yielded ops a.tmps) = true) : YieldsIf Tryz.prog ops S o v a :=
  .inl ⟨hw, fun u' hu => by
    unfold execOp
    simp only [ho, hx, Sem.run_bind, Sem.run_pure, Result.andThen_ok, run_load_k ht (hS u' hu)]⟩
theorem yield_kr {ty : TypeId} {d : TypeDesc} (hu : Tryz.prog.underlying ty = some d) (hd : d.isRow = true) {xs : List Value} (hs : (Tryz.prog.info? ty).map (·.size) = some xs.length) {b off : Nat} (hS : ∀ u, S u → u.rangeAt b off xs)
    (x : Operand) (ho : o.op = .load ty x) (hx : a.eval x = .pointer (some ⟨b, off, none⟩)) (hw : Region.wanted o (yielded ops a.tmps) = true) : YieldsIf Tryz.prog ops S o (.agg xs.toArray) a :=
  yieldsIf_load_mid hw ty x ho b off hx xs d hS hu hd hs
/-- append of one element, that lies in a block of its own. -/
theorem Kg.pushed (h : Kg w F own ro u) (i : Nat) {t : TypeId} {s : Nat} {v v' : Value} {n m : Nat} {cs ds : List Value} (hi : own[i]? = some (Th.og t s v n cs)) (h4 : u'.ownsRow 0 t s v' m ds) (hg : u.grownBy u' v.ownBlock) (hv : v'.ownBlock = v.ownBlock ∨ v'.ownBlock = some u.heap.size) : Kg w F (own.set i (Th.og t s v' m ds)) ro u' :=
  h.move i hi ⟨hg.os, hg.tape, hg.output, hg.size, fun k hk hn => hg.block k hk fun e => hn e.symm⟩ h4 (fun k hk => by
    have hk' : v'.ownBlock = some k := hk
    rcases hv with h1 | h1
    · exact .inl (h1.symm.trans hk')
    · rw [h1] at hk'; injection hk' with hk'; exact .inr (by omega))
theorem wp_push (hk : Kg w F own ro u) (i j : Nat) {st t : TypeId} {s bytes : Nat} {z : Value} (hinfo : (Tryz.prog.info? t).map (fun i => (i.zero, i.size, i.bytes)) = some (some z, s, bytes)) (hzs : z.cells.size = s) (hs0 : 0 < s) (hby : bytes ≤ 100000) (hu : Tryz.prog.underlying st = some (.slice t))
    {v : Value} {n : Nat} {cs : List Value} (hi : own[i]? = some (Th.og t s v n cs)) {g : Nat} {xs : List Value} (hj : own[j]? = some (Th.cel g t xs)) (hl : xs.length = s) (h1 : ∀ y ∈ xs, y.oneCell' = true)
    (x y : Operand) (ho : o.op = .call { callee := .builtin .append, args := #[x, y], argTypes := #[st, st] }) (hx : a.eval x = v) (hy : a.eval y = .slice (some ⟨g, 0, none⟩) 1 1) (hn : n ≤ 1000)
    (h : ∀ v' u', Kg w F (own.set i (Th.og t s v' (n + 1) (cs ++ xs))) ro u' → K (a.put o.dst v') u') : o.wp Tryz.prog a u K Q := by
  obtain ⟨i0, hi0, hz0, hz1, hz2⟩ := info_parts hinfo
  have hC := hk.celAt j hj
  obtain ⟨v', w', hrun, h2, h3, _, h5⟩ := run_append_own_at (P := Tryz.prog) u 0 st o.type t i0 z s bytes hu hi0 hz0 hz1 hz2 hzs hs0 v n cs (hk.ogAt i hi) ⟨g, 0, none⟩ 1 1 xs (by omega) (fun j u hu => by
      rw [Go.WideShapes.add_plain, Nat.zero_add]; exact hC.cell hu) h1 (by simp only [maxLen]; omega) (by
      have : (n + 1) * bytes ≤ 1001 * 100000 := Nat.mul_le_mul (by omega) hby
      omega) (Nat.zero_le _)
  have hK := h v' w' (hk.pushed i hi h2 h3 h5)
  unfold Oper.wp execOp
  simp only [ho, resolve, invoke, builtin, Sem.run_bind, Sem.run_pure, Result.andThen_ok, List.map_toArray, List.map_cons, List.map_nil, hx, hy, hrun]
  exact hK
theorem push_k (hk : Kg w F own ro u) (i j : Nat) {st t : TypeId} {s bytes : Nat} {z : Value} (hinfo : (Tryz.prog.info? t).map (fun i => (i.zero, i.size, i.bytes)) = some (some z, s, bytes)) (hzs : z.cells.size = s) (hs0 : 0 < s) (hby : bytes ≤ 100000) (hu : Tryz.prog.underlying st = some (.slice t))
    {v : Value} {n : Nat} {cs : List Value} (hi : own[i]? = some (Th.og t s v n cs)) {g : Nat} {xs : List Value} (hj : own[j]? = some (Th.cel g t xs)) (hl : xs.length = s) (h1 : ∀ y ∈ xs, y.oneCell' = true) (hgd : o.guard = none)
    (x y : Operand) (ho : o.op = .call { callee := .builtin .append, args := #[x, y], argTypes := #[st, st] }) (hx : a.eval x = v) (hy : a.eval y = .slice (some ⟨g, 0, none⟩) 1 1) (hn : n ≤ 1000)
    (h : ∀ v' u', Kg w F (own.set i (Th.og t s v' (n + 1) (cs ++ xs))) ro u' → wpList Tryz.prog ops Q rest (a.put o.dst v') u') : wpList Tryz.prog ops Q (o :: rest) a u :=
  wpList_plain hgd fun _ hK => wp_push hk i j hinfo hzs hs0 hby hu hi hj hl h1 x y ho hx hy hn fun v' u' h' => hK _ _ (h v' u' h')
/-- A slice of one, built. -/
theorem wp_buildF (hk : Kg w F own ro u) (x : Operand) (ho : o.op = .buildSlice 22 1 #[(0, x)]) {cs : List Value} (hc : cs.length = 587) (hx : a.eval x = .agg cs.toArray)
    (h : ∀ b u', Kg w F (Th.cel b 43 cs :: own) ro u' → K (a.put o.dst (.slice (some ⟨b, 0, none⟩) 1 1)) u') : o.wp Tryz.prog a u K Q := by
  unfold Oper.wp execOp
  simp only [ho, List.map_toArray, List.map_cons, List.map_nil, hx, Sem.run_bind, Sem.run_pure, Result.andThen_ok, run_build_f1 _ hc]
  exact h _ _ (hk.new rfl)
theorem buildF_k (hk : Kg w F own ro u) (hgd : o.guard = none) (x : Operand) (ho : o.op = .buildSlice 22 1 #[(0, x)]) {cs : List Value} (hc : cs.length = 587) (hx : a.eval x = .agg cs.toArray)
    (h : ∀ b u', Kg w F (Th.cel b 43 cs :: own) ro u' → wpList Tryz.prog ops Q rest (a.put o.dst (.slice (some ⟨b, 0, none⟩) 1 1)) u') : wpList Tryz.prog ops Q (o :: rest) a u :=
  wpList_plain hgd fun _ hK => wp_buildF hk x ho hc hx fun b u' h' => hK _ _ (h b u' h')
/-- A copy of holds: append to none. -/
theorem app_k (hk : Kg w F own ro u) (hgd : o.guard = none) (s x : Operand) (ho : o.op = .call { callee := .builtin .append, args := #[s, x], argTypes := #[41, 41] }) (hs : a.eval s = .slice none 0 0)
    {A : Option Addr} {c : Nat} {hs' : List Ho} (hx : a.eval x = .slice A hs'.length c) (hr : Row u A hs'.length hs')
    (h : ∀ A' c' u', Kg w F own (Th.hr A' hs' :: ro) u' → (∀ k, (Th.hr A' hs').foot k → u.heap.size ≤ k) → u.heap.size ≤ u'.heap.size → wpList Tryz.prog ops Q rest (a.put o.dst (.slice A' hs'.length c')) u') : wpList Tryz.prog ops Q (o :: rest) a u :=
  wpList_plain hgd fun _ hK => by
    obtain ⟨v', w', hrun, h2, h3, h4⟩ := append_hos u u.heap.size o.type (.slice none 0 0) [] ⟨by simp [flat, vals], .inl ⟨rfl, rfl⟩⟩ A hs'.length c hs' hr (by have := hr.2.1; simp only [List.length_nil]; omega) (Nat.le_refl _)
    rw [List.nil_append] at h2
    obtain ⟨A', c', rfl⟩ := h2.slice
    have hb : Below u.heap.size u w' := ⟨h3.os, h3.tape, h3.output, h3.size, fun k hk => h3.block k hk (by simp [Value.ownBlock])⟩
    have hf := Fresh.own h2
    have hn : ∀ k, (Th.hr A' hs').foot k → u.heap.size ≤ k := by
      rintro k ⟨h0, a, ha, rfl⟩
      exact hf.new a ha (by omega)
    have hK := hK _ _ (h A' c' w' (hk.made hb (t := Th.hr A' hs') (h2.row (by have := hr.2.1; omega)) hn) hn h3.size)
    unfold Oper.wp execOp
    simp only [ho, resolve, invoke, builtin, Sem.run_bind, Sem.run_pure, Result.andThen_ok, List.map_toArray, List.map_cons, List.map_nil, hs, hx, hrun]
    exact hK
end
section
variable {w u : World} {F : Nat → Prop} {own ro : List Th}
theorem results_k1 {fn : Func} {p : Tmp} {ty : TypeId} {d : TypeDesc} {cs : List Value} (h : fn.results = #[.cell p ty]) (hu : Tryz.prog.underlying ty = some d) (hd : d.isRow = true) (hs : (Tryz.prog.info? ty).map (·.size) = some cs.length) (tmps : Array Value) (hk : Kg w F own ro u) (i : Nat) {b : Nat}
    (hi : own[i]? = some (Th.cel b ty cs)) (hp : tmps.getD p undef = .pointer (some ⟨b, 0, none⟩)) : (results fn tmps).run Tryz.prog u = .ok (.agg cs.toArray) u :=
  results_cell_row h tmps u b _ _ (0, 0) d hp (hk.celAt i hi) hu (by cases d <;> simp_all) (by rw [List.size_toArray]; exact hs)
end

/-- One name ahead of another one; two that are one. -/
def ltS (a b : ByteArray) : Bool := Op.bytesLess a.toList b.toList
def eqS (a b : ByteArray) : Bool := a.toList == b.toList
theorem eqS_iff {a b : ByteArray} : eqS a b = true ↔ a = b := by
  constructor
  · intro h
    have h : a.toList = b.toList := by simpa [eqS] using h
    rw [Lib.toList_data, Lib.toList_data] at h
    cases a with
    | mk x =>
      cases b with
      | mk y =>
        congr
        exact Array.toList_inj.1 h
  · rintro rfl
    simp [eqS]
theorem eqS_self (a : ByteArray) : eqS a a = true := eqS_iff.2 rfl
theorem u8_lt {a b : UInt8} : a < b ↔ a.toNat < b.toNat := UInt8.lt_iff_toNat_lt
theorem u8_eq {a b : UInt8} : a = b ↔ a.toNat = b.toNat := UInt8.toNat_inj.symm
theorem bl_cons (a b : UInt8) (x y : List UInt8) : Op.bytesLess (a :: x) (b :: y) = true ↔ a.toNat < b.toNat ∨ (a = b ∧ Op.bytesLess x y = true) := by
  rw [Op.bytesLess]
  simp only [Bool.or_eq_true, Bool.and_eq_true, decide_eq_true_eq, beq_iff_eq, u8_lt]
theorem bl_irrefl : ∀ x : List UInt8, Op.bytesLess x x = false
  | [] => rfl
  | a :: x => by
    cases h : Op.bytesLess (a :: x) (a :: x) with
    | false => rfl
    | true =>
      rcases (bl_cons a a x x).1 h with h1 | ⟨_, h1⟩
      · omega
      · rw [bl_irrefl x] at h1; cases h1
theorem bl_trans : ∀ {x y z : List UInt8}, Op.bytesLess x y = true → Op.bytesLess y z = true → Op.bytesLess x z = true
  | _, [], _, h, _ => by cases ‹List UInt8› <;> simp [Op.bytesLess] at h
  | _, _ :: _, [], _, h => by simp [Op.bytesLess] at h
  | [], _ :: _, _ :: _, _, _ => rfl
  | a :: x, b :: y, c :: z, h1, h2 => by
    rw [bl_cons] at *
    rcases h1 with h1 | ⟨rfl, h1⟩ <;> rcases h2 with h2 | ⟨rfl, h2⟩
    · exact .inl (by omega)
    · exact .inl h1
    · exact .inl h2
    · exact .inr ⟨rfl, bl_trans h1 h2⟩
theorem bl_tri : ∀ {x y : List UInt8}, Op.bytesLess x y = false → Op.bytesLess y x = false → x = y
  | [], [], _, _ => rfl
  | [], _ :: _, h, _ => by simp [Op.bytesLess] at h
  | _ :: _, [], _, h => by simp [Op.bytesLess] at h
  | a :: x, b :: y, h1, h2 => by
    have n1 : ¬ (a.toNat < b.toNat ∨ (a = b ∧ Op.bytesLess x y = true)) := fun h => by rw [(bl_cons a b x y).2 h] at h1; cases h1
    have n2 : ¬ (b.toNat < a.toNat ∨ (b = a ∧ Op.bytesLess y x = true)) := fun h => by rw [(bl_cons b a y x).2 h] at h2; cases h2
    have e : a = b := u8_eq.2 (by omega)
    subst e
    congr 1
    refine bl_tri ?_ ?_
    · cases h : Op.bytesLess x y with
      | false => rfl
      | true => exact absurd (Or.inr ⟨rfl, h⟩) n1
    · cases h : Op.bytesLess y x with
      | false => rfl
      | true => exact absurd (Or.inr ⟨rfl, h⟩) n2
theorem ltS_irrefl (a : ByteArray) : ltS a a = false := bl_irrefl _
theorem ltS_trans {a b c : ByteArray} (h1 : ltS a b = true) (h2 : ltS b c = true) : ltS a c = true := bl_trans h1 h2
theorem ltS_tri {a b : ByteArray} (h1 : ltS a b = false) (h2 : ltS b a = false) : a = b := eqS_iff.1 (by simp [eqS, bl_tri h1 h2])
theorem ltS_ne {a b : ByteArray} (h : ltS a b = true) : a ≠ b := by
  rintro rfl; rw [ltS_irrefl] at h; cases h
theorem ltS_asym {a b : ByteArray} (h : ltS a b = true) : ltS b a = false := by
  cases h2 : ltS b a with
  | false => rfl
  | true => have := ltS_trans h h2; rw [ltS_irrefl] at this; cases this
/-- How two names stand to one another. -/
def cmpS (a b : ByteArray) : Int := if ltS a b then -1 else if eqS a b then 0 else 1
theorem cmpS_neg {a b : ByteArray} : decide (cmpS a b < 0) = ltS a b := by
  unfold cmpS
  cases h : ltS a b with
  | true => simp
  | false =>
    cases h2 : eqS a b <;> simp
theorem cmpS_ge {a b : ByteArray} : decide (0 ≤ cmpS a b) = !(ltS a b) := by
  rw [← cmpS_neg]
  by_cases h : cmpS a b < 0
  · simp [h]
  · rw [decide_eq_true (by omega), decide_eq_false h]; rfl
theorem nanS_any (a : ByteArray) (w : World) : Calls Tryz.prog 107 #[.string a] w fun e w' => e = .returned (.bool false) ∧ w = w' := by
  go_enter Tryz.func107, Tryz.ntmps107
  go_wp2
  go_ret
  exact ⟨by simp, rfl⟩
theorem gtrS {ops : Array Oper} {rest : List Oper} {o : Oper} {c : Act} {u : World} {Q : Exit → Act → World → Prop} {a b : ByteArray} {r : Bool} (hr : (!(Op.bytesLess a.toList b.toList || a.toList == b.toList)) = r) (hgd : o.guard = none) (x y : Operand) (t : TypeId) (ho : o.op = .binOp .gtr 9 x y t) (hx : c.eval x = .string a) (hy : c.eval y = .string b)
    (h : wpList Tryz.prog ops Q rest (c.put o.dst (.bool r)) u) : wpList Tryz.prog ops Q (o :: rest) c u :=
  wpList_plain hgd fun K hK => by
    subst hr
    have e : binOp .gtr 9 (.string a) (.string b) = pure (.bool (!(Op.bytesLess a.toList b.toList || a.toList == b.toList))) := by simp [binOp, Op.stringOp]
    unfold Oper.wp execOp
    simp only [ho, hx, hy, e, Sem.run_bind, Sem.run_pure]
    exact hK _ _ h
theorem cmps_any (a b : ByteArray) (w : World) : Calls Tryz.prog 68 #[.string a, .string b] w fun e w' => e = .returned (.int .i64 (cmpS a b)) ∧ w = w' := by
  cases h : Op.bytesLess a.toList b.toList with
  | true =>
    have HC := Lib.hid (show cmpS a b = -1 by simp [cmpS, ltS, h])
    go_enter Tryz.func68, Tryz.ntmps68
    go_wp2_with (first
      | (go_at_call 107; (with_reducible refine (nanS_any _ _).mono ?_); rintro e u ⟨rfl, rfl⟩))
    go_ret
    exact ⟨by rw [HC.out]; rfl, rfl⟩
  | false =>
    cases h2 : (a.toList == b.toList) with
    | true =>
      have HC := Lib.hid (show cmpS a b = 0 by simp [cmpS, ltS, h, eqS, h2])
      have h3 := Lib.hid (show (!(Op.bytesLess a.toList b.toList || a.toList == b.toList)) = false by rw [h, h2]; rfl)
      go_enter Tryz.func68, Tryz.ntmps68
      go_wp2_with (first
        | (go_at_call 107; (with_reducible refine (nanS_any _ _).mono ?_); rintro e u ⟨rfl, rfl⟩)
        | (with_reducible refine gtrS h3.out rfl _ _ _ rfl rfl rfl ?_))
      go_ret
      exact ⟨by rw [HC.out]; rfl, rfl⟩
    | false =>
      have HC := Lib.hid (show cmpS a b = 1 by simp [cmpS, ltS, h, eqS, h2])
      have h3 := Lib.hid (show (!(Op.bytesLess a.toList b.toList || a.toList == b.toList)) = true by rw [h, h2]; rfl)
      go_enter Tryz.func68, Tryz.ntmps68
      go_wp2_with (first
        | (go_at_call 107; (with_reducible refine (nanS_any _ _).mono ?_); rintro e u ⟨rfl, rfl⟩)
        | (with_reducible refine gtrS h3.out rfl _ _ _ rfl rfl rfl ?_))
      go_ret
      exact ⟨by rw [HC.out]; rfl, rfl⟩

/-! ### The document's before. -/

end Go.Proofs.YtgblnlpfgdbnnaaGreat
