/- Contracts of hold.Expire, and of what the statements call awake. What the statements of layer 6 stand on: slices of holds that come in, what is kept while calls tell rows, the statements' Few, and awake. Contracts of the document's Put, Reserve, End and Expire. -/
import Derived.Test.YtofngihdnjgmeaaLHoAct
namespace Go.Proofs.Ytofngihdnjgmeaa
set_option maxRecDepth 100000
open Go.ChangeShapes Go.WideShapes Go.ChangeAt Go.RowKit

theorem clone_sl (A : Option Addr) (n c : Nat) (hs : List Ho) (w : World) (hd : Row w A n hs) :
    Calls Try.prog 21 #[.slice A n c] w fun e w' => ∃ A1 c1, e = .returned (.slice A1 n c1) ∧ Own w' w.heap.size (.slice A1 n c1) hs ∧ Below w.heap.size w w' :=
  (clone_any A n c hs w hd).mono fun e w' ⟨v, he, ho, hb⟩ => by
    have hl := hd.1
    obtain ⟨A1, c1, e1⟩ := ho.slice
    rw [hl] at e1
    subst e1
    exact ⟨A1, c1, he, ho, hb⟩
end Go.Proofs.Ytofngihdnjgmeaa

namespace Go.Proofs.Ytofngihdnjgmeaa
set_option maxRecDepth 100000
open Go.ChangeShapes Go.WideShapes Go.ChangeAt Go.RowKit

/-- A slice of holds that comes in, of any length. -/
def Came (w : World) (A : Option Addr) (n : Nat) (hs : List Ho) : Prop :=
  hs.length = n ∧ n ≤ maxLen ∧ (n = 0 ∨ ∃ b off : Nat, A = some ⟨b, off, none⟩ ∧ ∀ k, k < n → w.rangeAt b (off + k * 5) (vals (hs.getD k z5).l))
theorem Came.row {w : World} {A : Option Addr} {n : Nat} {hs : List Ho} (h : Came w A n hs) (hn : n ≤ 1000) : Row w A n hs := ⟨h.1, hn, h.2.2⟩
theorem ints_ho {H : Type} {enc : TypeId × Value → H} {W : World} {b : Nat} {sp : Nat → Bool} {held : Bool} {fuel : Nat} {c0 c1 c2 c3 c4 : Value} {x : DataW H × List MemPlace} (h : DataW.trod enc Try.prog W b sp held fuel 59 [c0, c1, c2, c3, c4] = some x) :
    (∃ n, c0 = .int .i64 n) ∧ (∃ n, c1 = .int .i64 n) ∧ (∃ n, c2 = .int .i64 n) ∧ (∃ n, c3 = .int .i64 n) ∧ ∃ n, c4 = .int .i64 n := by
  have ci : Try.prog.cellsOf 3 = 1 := by kernel_rfl
  obtain ⟨xs, m, _, _, _, hn, hel⟩ := DataW.trod_struct h_under h
  obtain ⟨f1, f2, f3, f4, f5, hfs, e1, e2, e3, e4, e5⟩ := fields5n h_fields
  injection e1 with e1a e1; injection e1 with e1b e1c
  injection e2 with e2a e2; injection e2 with e2b e2c
  injection e3 with e3a e3; injection e3 with e3b e3c
  injection e4 with e4a e4; injection e4 with e4b e4c
  injection e5 with e5a e5; injection e5 with e5b e5c
  have hfs' : Try.prog.fieldsOf 59 = #[f1, f2, f3, f4, f5] := by apply Array.toList_inj.1; rw [hfs]
  rw [hfs'] at hel hn
  have hn5 : xs.length = 5 := by simpa using hn
  have d0 := hel 0 f1 rfl
  have d1 := hel 1 f2 rfl
  have d2 := hel 2 f3 rfl
  have d3 := hel 3 f4 rfl
  have d4 := hel 4 f5 rfl
  rw [e1a, e1b, ci, List.getElem?_eq_getElem (show 0 < xs.length by omega)] at d0
  rw [e2a, e2b, ci, List.getElem?_eq_getElem (show 1 < xs.length by omega)] at d1
  rw [e3a, e3b, ci, List.getElem?_eq_getElem (show 2 < xs.length by omega)] at d2
  rw [e4a, e4b, ci, List.getElem?_eq_getElem (show 3 < xs.length by omega)] at d3
  rw [e5a, e5b, ci, List.getElem?_eq_getElem (show 4 < xs.length by omega)] at d4
  obtain ⟨n0, h0, _, _⟩ := DataW.trod_int Try.underlying3 d0
  obtain ⟨n1, h1, _, _⟩ := DataW.trod_int Try.underlying3 d1
  obtain ⟨n2, h2, _, _⟩ := DataW.trod_int Try.underlying3 d2
  obtain ⟨n3, h3, _, _⟩ := DataW.trod_int Try.underlying3 d3
  obtain ⟨n4, h4, _, _⟩ := DataW.trod_int Try.underlying3 d4
  simp at h0 h1 h2 h3 h4
  exact ⟨⟨n0, h0⟩, ⟨n1, h1⟩, ⟨n2, h2⟩, ⟨n3, h3⟩, ⟨n4, h4⟩⟩
theorem open_holds {H : Type} {enc : TypeId × Value → H} {W : World} {b b' : Nat} {sp : Nat → Bool} {held : Bool} {v : Value} {d : DataW H} {p : List MemPlace} (hval : Value.okWide Try.prog W .any b' 31 v)
    (h : DataW.Trod enc Try.prog W b sp held 31 v d p) : ∃ A n c hs, v = .slice A n c ∧ Came W A n hs := by
  have c5 : Try.prog.cellsOf 59 = 5 := by kernel_rfl
  obtain ⟨A, n, c, rfl⟩ := okWide_slice Try.underlying31 hval
  obtain ⟨fuel, hf⟩ := h
  rcases Deep.open_slice Try.underlying31 hf with ⟨hcs, _⟩ | ⟨a, len, cap, m, k, DD, Pl, hcs, _, hl, hm, hmm, _, hel⟩
  · simp [Value.cells] at hcs
    obtain ⟨rfl, rfl, rfl⟩ := hcs
    exact ⟨none, 0, 0, [], rfl, rfl, by simp [maxLen], .inl rfl⟩
  · simp [Value.cells] at hcs
    obtain ⟨rfl, rfl, rfl⟩ := hcs
    have hlm : n ≤ m := by rw [hmm]; split <;> omega
    have hcell : ∀ i, i < n → ∃ h : Ho, ∀ j, j < 5 → W.cell? (a.add (i * 5 + j)) = some (.int .i64 (h.l.getD j 0)) := fun i hi => by
      obtain ⟨cs', h1, h2⟩ := hel i (by omega)
      rw [c5] at h1
      unfold World.cells? at h1
      split at h1
      · rw [show List.range 5 = [0, 1, 2, 3, 4] from rfl] at h1
        simp only [List.mapM_cons, List.mapM_nil, Option.bind_eq_bind, Option.bind_eq_some_iff, Option.pure_def, Option.some.injEq] at h1
        obtain ⟨c0, h0, _, ⟨c1, h1', _, ⟨c2, h2', _, ⟨c3, h3', _, ⟨c4, h4', _, rfl, rfl⟩, rfl⟩, rfl⟩, rfl⟩, rfl⟩ := h1
        obtain ⟨⟨n0, rfl⟩, ⟨n1, rfl⟩, ⟨n2, rfl⟩, ⟨n3, rfl⟩, ⟨n4, rfl⟩⟩ := ints_ho h2
        rw [Deep.add_add] at h0 h1' h2' h3' h4'
        refine ⟨⟨n0, n1, n2, n3, n4⟩, fun j hj => ?_⟩
        have : j = 0 ∨ j = 1 ∨ j = 2 ∨ j = 3 ∨ j = 4 := by omega
        rcases this with rfl | rfl | rfl | rfl | rfl
        · exact h0
        · exact h1'
        · exact h2'
        · exact h3'
        · exact h4'
      · cases h1
    obtain ⟨f, hfn⟩ := Deep.choose_lt hcell
    refine ⟨some a, n, c, (List.range n).map f, rfl, by simp, Nat.le_trans hl hm, ?_⟩
    rcases Nat.eq_zero_or_pos n with h0 | h0
    · exact .inl h0
    · have hg : ∀ i, i < n → ((List.range n).map f).getD i z5 = f i := fun i hi => by simp [List.getD, hi]
      have hz : ∀ i, i < (flat ((List.range n).map f)).length → W.cell? (a.add i) = some (.int .i64 ((flat ((List.range n).map f)).getD i 0)) := fun i hi => by
        have hi' : i < n * 5 := by rw [flat_length] at hi; simpa using hi
        have h1 := hfn (i / 5) (by omega) (i % 5) (by omega)
        rw [show i / 5 * 5 + i % 5 = i by omega] at h1
        have h2 := flat_get (hs := (List.range n).map f) (k := i / 5) (j := i % 5) (by simp; omega) (by omega)
        rw [show i / 5 * 5 + i % 5 = i by omega, hg (i / 5) (by omega)] at h2
        rw [h1, h2]
      obtain ⟨b0, off, rfl, hc'⟩ := ints_at hz (by rw [flat_length]; simp; omega)
      refine .inr ⟨b0, off, rfl, fun k hk j u hu => ?_⟩
      obtain ⟨hj, rfl⟩ := vals_at hu
      rw [Ho.len] at hj
      have h3 := hc' (k * 5 + j) (by rw [flat_length]; simp; omega)
      rw [flat_get (by simpa using hk) hj, ← Nat.add_assoc] at h3
      exact h3

/-! ### What is kept while calls tell rows. -/
abbrev RowT := Option Addr × Nat × List Ho
structure LawS (w : World) (l : List (Nat × TypeId × List Int)) (rows : List RowT) (u : World) : Prop where
  keep : KeepR w l u
  row : ∀ x ∈ rows, Row u x.1 x.2.1 x.2.2
theorem LawS.bel {w u : World} {l : List (Nat × TypeId × List Int)} {rows : List RowT} (h : LawS w l rows u) : Below w.heap.size w u := h.keep.bel
theorem LawS.get {w u : World} {l : List (Nat × TypeId × List Int)} {rows : List RowT} (h : LawS w l rows u) (i : Nat) {A : Option Addr} {n : Nat} {hs : List Ho} (hi : rows[i]? = some (A, n, hs)) : Row u A n hs := h.row _ (List.mem_of_getElem? hi)
theorem LawS.call {w u u' : World} {l : List (Nat × TypeId × List Int)} {rows : List RowT} (h : LawS w l rows u) (hb : Below u.heap.size u u') : LawS w l rows u' := ⟨h.keep.call hb, fun x hx => (h.row x hx).call hb⟩
theorem LawS.drew {w u : World} {l : List (Nat × TypeId × List Int)} {rows : List RowT} (h : LawS w l rows u) : LawS w l rows u.drew := h.call ((Below.refl _ _).drew)
theorem LawS.add {w u u' : World} {l : List (Nat × TypeId × List Int)} {rows : List RowT} (h : LawS w l rows u) (hb : Below u.heap.size u u') {A : Option Addr} {n : Nat} {hs : List Ho} (hr : Row u' A n hs) : LawS w l ((A, n, hs) :: rows) u' :=
  ⟨h.keep.call hb, fun x hx => by
    rcases List.mem_cons.1 hx with rfl | hx
    · exact hr
    · exact (h.row x hx).call hb⟩
theorem LawS.tail {w u : World} {x : Nat × TypeId × List Int} {l : List (Nat × TypeId × List Int)} {rows : List RowT} (h : LawS w (x :: l) rows u) : LawS w l rows u := ⟨h.keep.tail, h.row⟩
theorem LawS.start {w : World} {rows : List RowT} (h : ∀ x ∈ rows, Row w x.1 x.2.1 x.2.2) : LawS w [] rows w := ⟨KeepR.start w, h⟩
/-- A block was made, and waits to be written. -/
structure PendS (w : World) (b : Nat) (t : TypeId) (zs : List Int) (l : List (Nat × TypeId × List Int)) (rows : List RowT) (u : World) : Prop where
  keep : KeepR w ((b, t, zs) :: l) u
  row : ∀ x ∈ rows, Row u x.1 x.2.1 x.2.2 ∧ ∀ g off, x.1 = some ⟨g, off, none⟩ → 0 < x.2.1 → g < b
theorem LawS.alloc {w u u' : World} {l : List (Nat × TypeId × List Int)} {rows : List RowT} (h : LawS w l rows u) {b : Nat} {t : TypeId} {zs : List Int} (hn : b = u.heap.size) (hk : KeepR w ((b, t, zs) :: l) u') (hb : Below u.heap.size u u') : PendS w b t zs l rows u' :=
  ⟨hk, fun x hx => ⟨(h.row x hx).call hb, fun g off he h0 => by
    obtain ⟨g', off', he', hr⟩ := (h.row x hx).at h0
    rw [he] at he'
    injection he' with he'
    injection he' with e1 e2
    subst e1
    rw [hn]
    exact range_lt (hr 0 h0)⟩⟩
theorem PendS.store {w u u' : World} {b : Nat} {t : TypeId} {zs S : List Int} {l : List (Nat × TypeId × List Int)} {rows : List RowT} (h : PendS w b t zs l rows u) (hk : KeepR w ((b, t, S) :: l) u') (he : ∀ k, k ≠ b → u'.heap[k]? = u.heap[k]?) : LawS w ((b, t, S) :: l) rows u' :=
  ⟨hk, fun x hx => by
    obtain ⟨⟨h1, h2, h3⟩, h4⟩ := h.row x hx
    refine ⟨h1, h2, ?_⟩
    rcases h3 with h0 | ⟨g, off, e, hr⟩
    · exact .inl h0
    · refine .inr ⟨g, off, e, fun k hk' j v hv => ?_⟩
      have hg := h4 g off e (by omega)
      rw [World.cell?_of_block (w := u) (he g (by omega))]
      exact hr k hk' j v hv⟩

/-! ### Few. -/
/-! ### What calls tell, as rows. -/
theorem Own.told {w : World} {base : Nat} {v : Value} {hs : List Ho} (h : Own w base v hs) (hn : hs.length ≤ 1000) : ∃ A c, v = .slice A hs.length c ∧ Row w A hs.length hs := by
  obtain ⟨A, c, rfl⟩ := h.slice
  exact ⟨A, c, rfl, h.row hn⟩
theorem resL_len {l : List Ho} {k a d : Int} : (resL l k a d).length ≤ 17 := by
  unfold resL
  split
  · rename_i h
    rw [insH_length]
    have : l.length ≤ 16 := by
      unfold resE at h
      split at h
      · rename_i h2
        rw [Bool.and_eq_true] at h2
        exact (rights_iff.1 h2.1).1
      · omega
    omega
  · simp
/-! ### Awake. -/
end Go.Proofs.Ytofngihdnjgmeaa

namespace Go.Proofs.Ytofngihdnjgmeaa
set_option maxRecDepth 100000
open Go.ChangeShapes Go.WideShapes Go.ChangeAt Go.RowKit

theorem slice_highH (a : Option Addr) (len cap K : Nat) (h : K ≤ cap) (W : World) : (Instr.slice 31 (.slice a len cap) none (some (.int .i64 (K : Int))) none).run Try.prog W = .ok (.slice (if cap = 0 then a else a.map (·.add 0)) K cap) W := by
  obtain ⟨i0, hi0, hz0, hz1, hz2⟩ := info_parts h_info3
  simp [Instr.slice, run_underlying Try.underlying31, Instr.sliceBounds, Instr.sliceBound, asIntOf, sizeOf, typeInfo, hi0, h]
theorem Row.from {u : World} {A : Option Addr} {n c K : Nat} {hs : List Ho} (h : Row u A n hs) (hK : K ≤ n) (hc : n ≤ c) : Row u (if c = K then A else A.map (·.add (K * 5))) (n - K) (hs.drop K) := by
  obtain ⟨h1, h2, h3⟩ := h
  refine ⟨by simp; omega, by omega, ?_⟩
  rcases h3 with h0 | ⟨b, off, rfl, hr⟩
  · exact .inl (by omega)
  · rcases Nat.eq_zero_or_pos (n - K) with h0 | h0
    · exact .inl h0
    · refine .inr ⟨b, off + K * 5, ?_, Row.sub h1 hr⟩
      rw [if_neg (by omega), Option.map_some, Go.WideShapes.add_plain]
end Go.Proofs.Ytofngihdnjgmeaa
