/- What the statements of layer 6 stand on: slices of holds that come in, what is kept while calls tell rows, the statements' Few, and awake. -/
import Derived.Test.YtbaccghnneidgaaGreatHoExp
namespace Go.Proofs.YtbaccghnneidgaaGreat
set_option maxRecDepth 100000
open Go.ChangeShapes Go.WideShapes Go.ChangeAt Go.RowKit

/-- A slice of holds that comes in, of any length. -/
def Came (w : World) (A : Option Addr) (n : Nat) (hs : List Ho) : Prop :=
  hs.length = n ∧ n ≤ maxLen ∧ (n = 0 ∨ ∃ b off : Nat, A = some ⟨b, off, none⟩ ∧ ∀ k, k < n → w.rangeAt b (off + k * 5) (vals (hs.getD k z5).l))
theorem Came.row {w : World} {A : Option Addr} {n : Nat} {hs : List Ho} (h : Came w A n hs) (hn : n ≤ 1000) : Row w A n hs := ⟨h.1, hn, h.2.2⟩
theorem ints_ho {H : Type} {enc : TypeId × Value → H} {W : World} {b : Nat} {sp : Nat → Bool} {held : Bool} {fuel : Nat} {c0 c1 c2 c3 c4 : Value} {x : DataW H × List MemPlace} (h : DataW.trod enc Tryz.prog W b sp held fuel 81 [c0, c1, c2, c3, c4] = some x) :
    (∃ n, c0 = .int .i64 n) ∧ (∃ n, c1 = .int .i64 n) ∧ (∃ n, c2 = .int .i64 n) ∧ (∃ n, c3 = .int .i64 n) ∧ ∃ n, c4 = .int .i64 n := by
  have ci : Tryz.prog.cellsOf 3 = 1 := by kernel_rfl
  obtain ⟨xs, m, _, _, _, hn, hel⟩ := DataW.trod_struct h_under h
  obtain ⟨f1, f2, f3, f4, f5, hfs, e1, e2, e3, e4, e5⟩ := fields5n h_fields
  injection e1 with e1a e1; injection e1 with e1b e1c
  injection e2 with e2a e2; injection e2 with e2b e2c
  injection e3 with e3a e3; injection e3 with e3b e3c
  injection e4 with e4a e4; injection e4 with e4b e4c
  injection e5 with e5a e5; injection e5 with e5b e5c
  have hfs' : Tryz.prog.fieldsOf 81 = #[f1, f2, f3, f4, f5] := by apply Array.toList_inj.1; rw [hfs]
  rw [hfs'] at hel hn
  have hn5 : xs.length = 5 := by simpa using hn
  have d0 := hel 0 f1 rfl
  have d1 := hel 1 f2 rfl
  have d2 := hel 2 f3 rfl
  have d3 := hel 3 f4 rfl
  have d4 := hel 4 f5 rfl
  rw [e1a, e1b, ci, List.getElem?_eq_getElem (show 0 < xs.length by omega)] at d0
  rw [e2a, e2b, ci, List.getElem?_eq_getElem (show 1 < xs.length by omega)] at d1
  rw [e3a, e3b, ci, List.getElem?_eq_getElem (show 2 < xs.length by omega)] at d2
  rw [e4a, e4b, ci, List.getElem?_eq_getElem (show 3 < xs.length by omega)] at d3
  rw [e5a, e5b, ci, List.getElem?_eq_getElem (show 4 < xs.length by omega)] at d4
  obtain ⟨n0, h0, _, _⟩ := DataW.trod_int Tryz.underlying3 d0
  obtain ⟨n1, h1, _, _⟩ := DataW.trod_int Tryz.underlying3 d1
  obtain ⟨n2, h2, _, _⟩ := DataW.trod_int Tryz.underlying3 d2
  obtain ⟨n3, h3, _, _⟩ := DataW.trod_int Tryz.underlying3 d3
  obtain ⟨n4, h4, _, _⟩ := DataW.trod_int Tryz.underlying3 d4
  simp at h0 h1 h2 h3 h4
  exact ⟨⟨n0, h0⟩, ⟨n1, h1⟩, ⟨n2, h2⟩, ⟨n3, h3⟩, ⟨n4, h4⟩⟩
theorem open_holds {H : Type} {enc : TypeId × Value → H} {W : World} {b b' : Nat} {sp : Nat → Bool} {held : Bool} {v : Value} {d : DataW H} {p : List MemPlace} (hval : Value.okWide Tryz.prog W .any b' 31 v)
    (h : DataW.Trod enc Tryz.prog W b sp held 31 v d p) : ∃ A n c hs, v = .slice A n c ∧ Came W A n hs := by
  have c5 : Tryz.prog.cellsOf 81 = 5 := by kernel_rfl
  obtain ⟨A, n, c, rfl⟩ := okWide_slice Tryz.underlying31 hval
  obtain ⟨fuel, hf⟩ := h
  rcases Deep.open_slice Tryz.underlying31 hf with ⟨hcs, _⟩ | ⟨a, len, cap, m, k, DD, Pl, hcs, _, hl, hm, hmm, _, hel⟩
  · simp [Value.cells] at hcs
    obtain ⟨rfl, rfl, rfl⟩ := hcs
    exact ⟨none, 0, 0, [], rfl, rfl, by simp [maxLen], .inl rfl⟩
  · simp [Value.cells] at hcs
    obtain ⟨rfl, rfl, rfl⟩ := hcs
    have hlm : n ≤ m := by rw [hmm]; split <;> omega
    have hcell : ∀ i, i < n → ∃ h : Ho, ∀ j, j < 5 → W.cell? (a.add (i * 5 + j)) = some (.int .i64 (h.l.getD j 0)) := fun i hi => by
      obtain ⟨cs', h1, h2⟩ := hel i (by omega)
      rw [c5] at h1
      unfold World.cells? at h1
      split at h1
      · rw [show List.range 5 = [0, 1, 2, 3, 4] from rfl] at h1
        simp only [List.mapM_cons, List.mapM_nil, Option.bind_eq_bind, Option.bind_eq_some_iff, Option.pure_def, Option.some.injEq] at h1
        obtain ⟨c0, h0, _, ⟨c1, h1', _, ⟨c2, h2', _, ⟨c3, h3', _, ⟨c4, h4', _, rfl, rfl⟩, rfl⟩, rfl⟩, rfl⟩, rfl⟩ := h1
        obtain ⟨⟨n0, rfl⟩, ⟨n1, rfl⟩, ⟨n2, rfl⟩, ⟨n3, rfl⟩, ⟨n4, rfl⟩⟩ := ints_ho h2
        rw [Deep.add_add] at h0 h1' h2' h3' h4'
        refine ⟨⟨n0, n1, n2, n3, n4⟩, fun j hj => ?_⟩
        have : j = 0 ∨ j = 1 ∨ j = 2 ∨ j = 3 ∨ j = 4 := by omega
        rcases this with rfl | rfl | rfl | rfl | rfl
        · exact h0
        · exact h1'
        · exact h2'
        · exact h3'
        · exact h4'
      · cases h1
    obtain ⟨f, hfn⟩ := Deep.choose_lt hcell
    refine ⟨some a, n, c, (List.range n).map f, rfl, by simp, Nat.le_trans hl hm, ?_⟩
    rcases Nat.eq_zero_or_pos n with h0 | h0
    · exact .inl h0
    · have hg : ∀ i, i < n → ((List.range n).map f).getD i z5 = f i := fun i hi => by simp [List.getD, hi]
      have hz : ∀ i, i < (flat ((List.range n).map f)).length → W.cell? (a.add i) = some (.int .i64 ((flat ((List.range n).map f)).getD i 0)) := fun i hi => by
        have hi' : i < n * 5 := by rw [flat_length] at hi; simpa using hi
        have h1 := hfn (i / 5) (by omega) (i % 5) (by omega)
        rw [show i / 5 * 5 + i % 5 = i by omega] at h1
        have h2 := flat_get (hs := (List.range n).map f) (k := i / 5) (j := i % 5) (by simp; omega) (by omega)
        rw [show i / 5 * 5 + i % 5 = i by omega, hg (i / 5) (by omega)] at h2
        rw [h1, h2]
      obtain ⟨b0, off, rfl, hc'⟩ := ints_at hz (by rw [flat_length]; simp; omega)
      refine .inr ⟨b0, off, rfl, fun k hk j u hu => ?_⟩
      obtain ⟨hj, rfl⟩ := vals_at hu
      rw [Ho.len] at hj
      have h3 := hc' (k * 5 + j) (by rw [flat_length]; simp; omega)
      rw [flat_get (by simpa using hk) hj, ← Nat.add_assoc] at h3
      exact h3

/-! ### What is kept while calls tell rows. -/
abbrev RowT := Option Addr × Nat × List Ho
structure LawS (w : World) (l : List (Nat × TypeId × List Int)) (rows : List RowT) (u : World) : Prop where
  keep : KeepR w l u
  row : ∀ x ∈ rows, Row u x.1 x.2.1 x.2.2
theorem LawS.bel {w u : World} {l : List (Nat × TypeId × List Int)} {rows : List RowT} (h : LawS w l rows u) : Below w.heap.size w u := h.keep.bel
theorem LawS.get {w u : World} {l : List (Nat × TypeId × List Int)} {rows : List RowT} (h : LawS w l rows u) (i : Nat) {A : Option Addr} {n : Nat} {hs : List Ho} (hi : rows[i]? = some (A, n, hs)) : Row u A n hs := h.row _ (List.mem_of_getElem? hi)
theorem LawS.call {w u u' : World} {l : List (Nat × TypeId × List Int)} {rows : List RowT} (h : LawS w l rows u) (hb : Below u.heap.size u u') : LawS w l rows u' := ⟨h.keep.call hb, fun x hx => (h.row x hx).call hb⟩
theorem LawS.drew {w u : World} {l : List (Nat × TypeId × List Int)} {rows : List RowT} (h : LawS w l rows u) : LawS w l rows u.drew := h.call ((Below.refl _ _).drew)
theorem LawS.add {w u u' : World} {l : List (Nat × TypeId × List Int)} {rows : List RowT} (h : LawS w l rows u) (hb : Below u.heap.size u u') {A : Option Addr} {n : Nat} {hs : List Ho} (hr : Row u' A n hs) : LawS w l ((A, n, hs) :: rows) u' :=
  ⟨h.keep.call hb, fun x hx => by
    rcases List.mem_cons.1 hx with rfl | hx
    · exact hr
    · exact (h.row x hx).call hb⟩
theorem LawS.tail {w u : World} {x : Nat × TypeId × List Int} {l : List (Nat × TypeId × List Int)} {rows : List RowT} (h : LawS w (x :: l) rows u) : LawS w l rows u := ⟨h.keep.tail, h.row⟩
theorem LawS.start {w : World} {rows : List RowT} (h : ∀ x ∈ rows, Row w x.1 x.2.1 x.2.2) : LawS w [] rows w := ⟨KeepR.start w, h⟩
/-- A block was made, and waits to be written. -/
structure PendS (w : World) (b : Nat) (t : TypeId) (zs : List Int) (l : List (Nat × TypeId × List Int)) (rows : List RowT) (u : World) : Prop where
  keep : KeepR w ((b, t, zs) :: l) u
  row : ∀ x ∈ rows, Row u x.1 x.2.1 x.2.2 ∧ ∀ g off, x.1 = some ⟨g, off, none⟩ → 0 < x.2.1 → g < b
theorem LawS.alloc {w u u' : World} {l : List (Nat × TypeId × List Int)} {rows : List RowT} (h : LawS w l rows u) {b : Nat} {t : TypeId} {zs : List Int} (hn : b = u.heap.size) (hk : KeepR w ((b, t, zs) :: l) u') (hb : Below u.heap.size u u') : PendS w b t zs l rows u' :=
  ⟨hk, fun x hx => ⟨(h.row x hx).call hb, fun g off he h0 => by
    obtain ⟨g', off', he', hr⟩ := (h.row x hx).at h0
    rw [he] at he'
    injection he' with he'
    injection he' with e1 e2
    subst e1
    rw [hn]
    exact range_lt (hr 0 h0)⟩⟩
theorem PendS.store {w u u' : World} {b : Nat} {t : TypeId} {zs S : List Int} {l : List (Nat × TypeId × List Int)} {rows : List RowT} (h : PendS w b t zs l rows u) (hk : KeepR w ((b, t, S) :: l) u') (he : ∀ k, k ≠ b → u'.heap[k]? = u.heap[k]?) : LawS w ((b, t, S) :: l) rows u' :=
  ⟨hk, fun x hx => by
    obtain ⟨⟨h1, h2, h3⟩, h4⟩ := h.row x hx
    refine ⟨h1, h2, ?_⟩
    rcases h3 with h0 | ⟨g, off, e, hr⟩
    · exact .inl h0
    · refine .inr ⟨g, off, e, fun k hk' j v hv => ?_⟩
      have hg := h4 g off e (by omega)
      rw [World.cell?_of_block (w := u) (he g (by omega))]
      exact hr k hk' j v hv⟩

/-! ### Few. -/
def ManyAt (w : World) (b : Nat) (L : List (Option Addr × Nat × Nat)) : Prop := ∀ i x, L[i]? = some x → w.cell? ⟨b, i, none⟩ = some (.slice x.1 x.2.1 x.2.2)
def fewB (L : List (Option Addr × Nat × Nat)) : Bool := L.all fun x => decide (x.2.1 ≤ 40)
theorem few_no {L : List (Option Addr × Nat × Nat)} {i : Nat} {x : Option Addr × Nat × Nat} (h : L[i]? = some x) (hx : ¬ x.2.1 ≤ 40) : fewB L = false := by
  rw [fewB, List.all_eq_false]
  exact ⟨x, List.mem_of_getElem? h, by simpa using hx⟩
theorem few_yes {L : List (Option Addr × Nat × Nat)} (h : ∀ (i : Nat) (x : Option Addr × Nat × Nat), L[i]? = some x → x.2.1 ≤ 40) : fewB L = true := by
  rw [fewB, List.all_eq_true]
  intro x hx
  obtain ⟨i, hi⟩ := List.mem_iff_getElem?.1 hx
  simpa using h i x hi
theorem slices_info : (Tryz.prog.info? 31).map (fun i => (i.zero, i.size, i.bytes)) = some (some (.slice none 0 0), 1, 24) := by kernel_rfl
theorem set_oneH (f : Nat → Value) (v : Value) : (Array.map f (Array.range 1)).setIfInBounds 0 v = #[v] := by
  apply Array.ext
  · simp
  · intro i h1 h2
    have : i = 0 := by simp at h2; omega
    subst this
    simp
theorem set_threeH (f : Nat → Value) (x y z : Value) : (((Array.map f (Array.range 3)).setIfInBounds 0 x).setIfInBounds 1 y).setIfInBounds 2 z = #[x, y, z] := by
  apply Array.ext
  · simp
  · intro i h1 h2
    have : i = 0 ∨ i = 1 ∨ i = 2 := by simp at h2; omega
    rcases this with rfl | rfl | rfl <;> simp
theorem many_new (u : World) (cs : List Value) (L : List (Option Addr × Nat × Nat)) (h : cs = L.map fun x => .slice x.1 x.2.1 x.2.2) : ManyAt (u.alloc (.cells cs.toArray 31)) u.heap.size L := by
  intro i x hx
  rw [cell_of_row _ _ _ _ _ (0, 0) (heap_alloc_new u _)]
  subst h
  simp [hx]
theorem few1 {A : Option Addr} {n c : Nat} (h : n ≤ 40) : fewB [(A, n, c)] = true := by simp [fewB, h]
theorem few1n {A : Option Addr} {n c : Nat} (h : ¬ n ≤ 40) : fewB [(A, n, c)] = false := by simp [fewB, h]
/-! ### What calls tell, as rows. -/
theorem Own.told {w : World} {base : Nat} {v : Value} {hs : List Ho} (h : Own w base v hs) (hn : hs.length ≤ 1000) : ∃ A c, v = .slice A hs.length c ∧ Row w A hs.length hs := by
  obtain ⟨A, c, rfl⟩ := h.slice
  exact ⟨A, c, rfl, h.row hn⟩
theorem resL_len {l : List Ho} {k a d : Int} : (resL l k a d).length ≤ 17 := by
  unfold resL
  split
  · rename_i h
    rw [insH_length]
    have : l.length ≤ 16 := by
      unfold resE at h
      split at h
      · rename_i h2
        rw [Bool.and_eq_true] at h2
        exact (rights_iff.1 h2.1).1
      · omega
    omega
  · simp
theorem reserve_row (A : Option Addr) (n c : Nat) (hs : List Ho) (k a d : Int) (w : World) (hd : Row w A n hs) (N E : Int) (R : List Ho) (r : Nat) (hN : resN hs k a d = N) (hE : resE hs k a d = E) (hR : resL hs k a d = R) (hr : R.length = r) :
    Calls Tryz.prog 74 #[.slice A n c, .int .i64 k, .int .i64 a, .int .i64 d] w fun e w' => ∃ A1 c1, e = .returned (.tuple #[.slice A1 r c1, .int .i64 N, .int .i64 E]) ∧ Row w' A1 r R ∧ Below w.heap.size w w' := by
  subst hN; subst hE; subst hR; subst hr
  refine (reserve_any A n c hs k a d w hd).mono fun e w' ⟨v, he, ho, hb⟩ => ?_
  have hl := resL_len (l := hs) (k := k) (a := a) (d := d)
  obtain ⟨A1, c1, rfl, hrow⟩ := ho.told (by omega)
  exact ⟨A1, c1, he, hrow, hb⟩
theorem endL_len {l : List Ho} {k n st : Int} : (endL l k n st).length ≤ l.length := by
  unfold endL
  split <;> simp
theorem end_row (A : Option Addr) (n c : Nat) (hs : List Ho) (k q st : Int) (w : World) (hd : Row w A n hs) (N E : Int) (R : List Ho) (r : Nat) (hN : endA hs k q st = N) (hE : endE hs k q st = E) (hR : endL hs k q st = R) (hr : R.length = r) :
    Calls Tryz.prog 77 #[.slice A n c, .int .i64 k, .int .i64 q, .int .i64 st] w fun e w' => ∃ A1 c1, e = .returned (.tuple #[.slice A1 r c1, .int .i64 N, .int .i64 E]) ∧ Row w' A1 r R ∧ Below w.heap.size w w' := by
  subst hN; subst hE; subst hR; subst hr
  refine (end_any A n c hs k q st w hd).mono fun e w' ⟨v, he, ho, hb⟩ => ?_
  have hl := endL_len (l := hs) (k := k) (n := q) (st := st)
  obtain ⟨A1, c1, rfl, hrow⟩ := ho.told (by have h1 := hd.1; have h2 := hd.2.1; omega)
  exact ⟨A1, c1, he, hrow, hb⟩
theorem expL_len (l : List Ho) (k now : Int) : (expL l k now).length = l.length := by
  unfold expL
  split <;> simp
theorem expire_row (A : Option Addr) (n c : Nat) (hs : List Ho) (k now : Int) (w : World) (hd : Row w A n hs) (N : Int) (R : List Ho) (hN : expN hs k now = N) (hR : expL hs k now = R) :
    Calls Tryz.prog 80 #[.slice A n c, .int .i64 k, .int .i64 now] w fun e w' => ∃ A1 c1, e = .returned (.tuple #[.slice A1 n c1, .int .i64 N]) ∧ Row w' A1 n R ∧ Below w.heap.size w w' := by
  subst hN; subst hR
  refine (expire_any A n c hs k now w hd).mono fun e w' ⟨v, he, ho, hb⟩ => ?_
  have hl := expL_len hs k now
  have h1 := hd.1
  have h2 := hd.2.1
  obtain ⟨A1, c1, rfl, hrow⟩ := ho.told (by omega)
  rw [hl, h1] at he hrow
  exact ⟨A1, c1, he, hrow, hb⟩
theorem sum_eq (A : Option Addr) (n c : Nat) (hs : List Ho) (k z : Int) (hz : sumOf hs k = z) (w : World) (hd : Row w A n hs) :
    Calls Tryz.prog 43 #[.slice A n c, .int .i64 k] w fun e w' => e = .returned (.int .i64 z) ∧ Below w.heap.size w w' := by subst hz; exact hsum_any A n c hs k w hd

/-! ### Awake. -/
def awH : Ho := ⟨2, 1, 5, 9, 1⟩
theorem aw1H : resL [] 2 5 9 = [awH] := rfl
theorem aw2H : resN [] 2 5 9 = 1 := rfl
theorem aw3H : resE [] 2 5 9 = 0 := rfl
theorem aw4 : expN [awH] 2 9 = 0 := rfl
theorem aw5 : expN [awH] 2 10 = 1 := rfl
theorem aw6 : expL [awH] 2 10 = [⟨2, 1, 5, 9, 3⟩] := rfl
theorem aw7 : sumOf [awH] 2 = 5 := rfl
theorem aw_r (w : World) : Calls Tryz.prog 74 #[.slice none 0 0, .int .i64 2, .int .i64 5, .int .i64 9] w fun e w' => ∃ A1 c1, e = .returned (.tuple #[.slice A1 1 c1, .int .i64 1, .int .i64 0]) ∧ Row w' A1 1 [awH] ∧ Below w.heap.size w w' :=
  reserve_row none 0 0 [] 2 5 9 w (Row.nil _ _) 1 0 [awH] 1 aw2H aw3H aw1H rfl
theorem aw_9 (A : Option Addr) (c : Nat) (w : World) (hd : Row w A 1 [awH]) : Calls Tryz.prog 80 #[.slice A 1 c, .int .i64 2, .int .i64 9] w fun e w' => (∃ A1 c1, e = .returned (.tuple #[.slice A1 1 c1, .int .i64 0])) ∧ Below w.heap.size w w' :=
  (expire_row A 1 c [awH] 2 9 w hd 0 _ aw4 rfl).mono fun _e _w' ⟨A1, c1, he, _, hb⟩ => ⟨⟨A1, c1, he⟩, hb⟩
theorem aw_10 (A : Option Addr) (c : Nat) (w : World) (hd : Row w A 1 [awH]) : Calls Tryz.prog 80 #[.slice A 1 c, .int .i64 2, .int .i64 10] w fun e w' => (∃ g o c1, e = .returned (.tuple #[.slice (some ⟨g, o, none⟩) 1 c1, .int .i64 1]) ∧ w'.cell? ⟨g, o + 4, none⟩ = some (.int .i64 3)) ∧ Below w.heap.size w w' :=
  (expire_row A 1 c [awH] 2 10 w hd 1 _ aw5 aw6).mono fun e w' ⟨A1, c1, he, hr, hb⟩ => by
    obtain ⟨g, o, rfl, hr3⟩ := hr.at (show 0 < 1 by omega)
    have h := (range5 (hr3 0 (by omega))).2.2.2.2
    rw [show o + 0 * 5 + 4 = o + 4 by omega] at h
    exact ⟨⟨g, o, c1, he, h⟩, hb⟩
end Go.Proofs.YtbaccghnneidgaaGreat
