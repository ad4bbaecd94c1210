/- Slices that come in: of bytes, of steps, of slices of bytes. -/
import Derived.Test.YtglhjfcngpednaaDr
import Derived.OpenShut
import Derived.ChangeOld
import Derived.ChangeSlices
import Derived.Deep.Slices
import Derived.Deep.Matrix
namespace Go.Proofs.Ytglhjfcngpednaa
open Go.ChangeShapes Go.WideShapes Go.ChangeAt Go.RowKit

theorem of_small {k : Nat} (h : k < 256) : (UInt8.ofNat k).toNat = k := by simp; omega
theorem toNat_ofInt {z : Int} (h0 : 0 ≤ z) (h1 : z < 256) : ((UInt8.ofNat z.toNat).toNat : Int) = z := by
  rw [of_small (by omega)]; omega
theorem u8_wf {z : Int} (h : (Lit.int .u8 z).wf = true) : 0 ≤ z ∧ z < 256 := by
  simp [Lit.wf] at h
  have e1 : IntKind.u8.min = 0 := by decide
  have e2 : IntKind.u8.max = 255 := by decide
  omega
/-- A slice of bytes, as one cell holds it. -/
theorem open_bc {H : Type} {enc : TypeId × Value → H} {W : World} {b fuel : Nat} {sp : Nat → Bool} {held : Bool} {v : Value} {x : DataW H × List MemPlace} (hf : DataW.trod enc Try.prog W b sp held fuel 27 [v] = some x) : ∃ A n c l, v = .slice A n c ∧ l.length = n ∧ n ≤ c ∧ c ≤ maxLen ∧ Bys W A l := by
  rcases open_ints Try.underlying27 Try.underlying5 (by kernel_rfl) hf with ⟨hcs, _⟩ | ⟨x, n, c, zs, hcs, _, hl, hm, hz, _, hcell, hwf⟩
  · simp at hcs
    subst hcs
    exact ⟨none, 0, 0, [], rfl, rfl, Nat.le_refl _, by simp, .inl rfl⟩
  · simp at hcs
    subst hcs
    have hnz : n ≤ zs.length := by rw [hz]; split <;> omega
    refine ⟨some x, n, _, (zs.take n).map fun z => UInt8.ofNat z.toNat, rfl, by simp; omega, hl, hm, ?_⟩
    rcases Nat.eq_zero_or_pos n with h0 | h0
    · left; rw [h0]; rfl
    · obtain ⟨b0, off, rfl, hc'⟩ := ints_at hcell (by omega)
      refine .inr ⟨b0, off, rfl, fun i hi => ?_⟩
      have hi' : i < n := by simp at hi; omega
      rw [hc' i (by omega)]
      have hz1 : i < zs.length := by omega
      have hw := hwf (zs.getD i 0) (by rw [List.getD_eq_getElem?_getD, List.getElem?_eq_getElem hz1]; exact List.getElem_mem hz1)
      have hw2 := u8_wf hw
      have e : ((zs.take n).map fun z => UInt8.ofNat z.toNat).getD i 0 = UInt8.ofNat (zs.getD i 0).toNat := by
        simp [List.getD, hi', hz1]
      rw [e, toNat_ofInt hw2.1 hw2.2]
theorem open_b {H : Type} {enc : TypeId × Value → H} {W : World} {b b' : Nat} {sp : Nat → Bool} {held : Bool} {v : Value} {d : DataW H} {p : List MemPlace} (hval : Value.okWide Try.prog W .any b' 27 v)
    (h : DataW.Trod enc Try.prog W b sp held 27 v d p) : ∃ A n c l, v = .slice A n c ∧ l.length = n ∧ n ≤ c ∧ c ≤ maxLen ∧ Bys W A l := by
  obtain ⟨A, n, c, rfl⟩ := okWide_slice Try.underlying27 hval
  obtain ⟨fuel, hf⟩ := h
  exact open_bc (by simpa [Value.cells] using hf)
/-- A step: what it is, its two numbers, its bytes. -/
structure Sp where
  vb : Int
  n : Int
  m : Int
  A : Option Addr
  c : Nat
  b : List UInt8
instance : Inhabited Sp := ⟨⟨0, 0, 0, none, 0, []⟩⟩
def Sp.cells (s : Sp) : List Value := [.int .i64 s.vb, .int .i64 s.n, .int .i64 s.m, .slice s.A s.b.length s.c]
theorem d_fields : (Try.prog.fieldsOf 31).toList.map (fun f => (f.type, f.offset)) = [(3, 0), (3, 1), (3, 2), (27, 3)] := by kernel_rfl
theorem d_under : Try.prog.underlying 31 = some (.struct (Try.prog.fieldsOf 31)) := by kernel_rfl
theorem fields4 {fs : List Field} {x y z v : TypeId × Nat} (h : fs.map (fun f => (f.type, f.offset)) = [x, y, z, v]) : ∃ f g k l, fs = [f, g, k, l] ∧ (f.type, f.offset) = x ∧ (g.type, g.offset) = y ∧ (k.type, k.offset) = z ∧ (l.type, l.offset) = v := by
  match fs, h with
  | [f, g, k, l], h => exact ⟨f, g, k, l, rfl, by simpa using h⟩
theorem open_do {H : Type} {enc : TypeId × Value → H} {W : World} {b : Nat} {sp : Nat → Bool} {held : Bool} {fuel : Nat} {c0 c1 c2 c3 : Value} {x : DataW H × List MemPlace} (h : DataW.trod enc Try.prog W b sp held fuel 31 [c0, c1, c2, c3] = some x) :
    ∃ s : Sp, [c0, c1, c2, c3] = s.cells ∧ Bys W s.A s.b ∧ s.b.length ≤ s.c := by
  have ci : Try.prog.cellsOf 3 = 1 := by kernel_rfl
  have cb : Try.prog.cellsOf 27 = 1 := by kernel_rfl
  obtain ⟨xs, m, _, _, _, hn, hel⟩ := DataW.trod_struct d_under h
  obtain ⟨f, g, k, l, hfs, e1, e2, e3, e4⟩ := fields4 d_fields
  injection e1 with e1a e1b
  injection e2 with e2a e2b
  injection e3 with e3a e3b
  injection e4 with e4a e4b
  have hfs' : Try.prog.fieldsOf 31 = #[f, g, k, l] := by apply Array.toList_inj.1; rw [hfs]
  rw [hfs'] at hel hn
  have hn4 : xs.length = 4 := by simpa using hn
  have d0 := hel 0 f rfl
  have d1 := hel 1 g rfl
  have d2 := hel 2 k rfl
  have d3 := hel 3 l rfl
  rw [e1a, e1b, ci, List.getElem?_eq_getElem (show 0 < xs.length by omega)] at d0
  rw [e2a, e2b, ci, List.getElem?_eq_getElem (show 1 < xs.length by omega)] at d1
  rw [e3a, e3b, ci, List.getElem?_eq_getElem (show 2 < xs.length by omega)] at d2
  rw [e4a, e4b, cb, List.getElem?_eq_getElem (show 3 < xs.length by omega)] at d3
  obtain ⟨n0, h0, _, _⟩ := DataW.trod_int Try.underlying3 d0
  obtain ⟨n1, h1, _, _⟩ := DataW.trod_int Try.underlying3 d1
  obtain ⟨n2, h2, _, _⟩ := DataW.trod_int Try.underlying3 d2
  obtain ⟨A, q, c, bl, h3, hl, hc, _, hb⟩ := open_bc (v := c3) (by simpa using d3)
  simp at h0 h1 h2
  subst h0; subst h1; subst h2; subst h3; subst hl
  exact ⟨⟨n0, n1, n2, A, c, bl⟩, rfl, hb, hc⟩
/-- A row of steps, as a slice reads it. -/
def Steps (w : World) (A : Option Addr) (n : Nat) (L : List Sp) : Prop :=
  L.length = n ∧ n ≤ maxLen ∧ (n = 0 ∨ ∃ b off : Nat, A = some ⟨b, off, none⟩ ∧ ∀ i s, L[i]? = some s → w.rangeAt b (off + i * 4) s.cells ∧ Bys w s.A s.b ∧ s.b.length ≤ s.c)
theorem open_steps {H : Type} {enc : TypeId × Value → H} {W : World} {b b' : Nat} {sp : Nat → Bool} {held : Bool} {v : Value} {d : DataW H} {p : List MemPlace} (hval : Value.okWide Try.prog W .any b' 22 v)
    (h : DataW.Trod enc Try.prog W b sp held 22 v d p) : ∃ A n c L, v = .slice A n c ∧ Steps W A n L := by
  have c4 : Try.prog.cellsOf 31 = 4 := by kernel_rfl
  obtain ⟨A, n, c, rfl⟩ := okWide_slice Try.underlying22 hval
  obtain ⟨fuel, hf⟩ := h
  rcases Deep.open_slice Try.underlying22 hf with ⟨hcs, _⟩ | ⟨a, len, cap, m, k, DD, Pl, hcs, _, hl, hm, hmm, _, hel⟩
  · simp [Value.cells] at hcs
    obtain ⟨rfl, rfl, rfl⟩ := hcs
    exact ⟨none, 0, 0, [], rfl, rfl, by simp, .inl rfl⟩
  · simp [Value.cells] at hcs
    obtain ⟨rfl, rfl, rfl⟩ := hcs
    have hlm : n ≤ m := by rw [hmm]; split <;> omega
    have hcell : ∀ i, i < n → ∃ s : Sp, (∀ j v, s.cells[j]? = some v → W.cell? (a.add (i * 4 + j)) = some v) ∧ Bys W s.A s.b ∧ s.b.length ≤ s.c := fun i hi => by
      obtain ⟨cs', h1, h2⟩ := hel i (by omega)
      rw [c4] at h1
      unfold World.cells? at h1
      split at h1
      · rw [show List.range 4 = [0, 1, 2, 3] from rfl] at h1
        simp only [List.mapM_cons, List.mapM_nil, Option.bind_eq_bind, Option.bind_eq_some_iff, Option.pure_def, Option.some.injEq] at h1
        obtain ⟨c0, h0, _, ⟨c1, h1', _, ⟨c2, h2', _, ⟨c3, h3', _, rfl, rfl⟩, rfl⟩, rfl⟩, rfl⟩ := h1
        obtain ⟨s, e, hb, hc⟩ := open_do h2
        refine ⟨s, fun j v hj => ?_, hb, hc⟩
        rw [← e] at hj
        rw [Deep.add_add] at h0 h1' h2' h3'
        match j, hj with
        | 0, hj => simp at hj; subst hj; exact h0
        | 1, hj => simp at hj; subst hj; exact h1'
        | 2, hj => simp at hj; subst hj; exact h2'
        | 3, hj => simp at hj; subst hj; exact h3'
        | j + 4, hj => simp at hj
      · cases h1
    obtain ⟨f, hfn⟩ := Deep.choose_lt hcell
    refine ⟨some a, n, c, (List.range n).map f, rfl, by simp, Nat.le_trans hl hm, ?_⟩
    rcases Nat.eq_zero_or_pos n with h0 | h0
    · exact .inl h0
    · right
      obtain ⟨b0, off, spot⟩ := a
      have hsp := World.cell?_spot ((hfn 0 h0).1 0 _ rfl)
      have hs2 : spot = none := by simpa [Addr.add] using hsp
      subst hs2
      refine ⟨b0, off, rfl, fun i s hs => ?_⟩
      have hi : i < n := by
        have := (List.getElem?_eq_some_iff.1 hs).1
        simpa using this
      simp only [List.getElem?_map, List.getElem?_range hi, Option.map_some, Option.some.injEq] at hs
      subst hs
      obtain ⟨h1, h2, h3⟩ := hfn i hi
      refine ⟨fun j v hj => ?_, h2, h3⟩
      have := h1 j v hj
      rw [Go.WideShapes.add_plain] at this
      rw [Nat.add_assoc]
      exact this
theorem Steps.below {w w' : World} {A : Option Addr} {n : Nat} {L : List Sp} (h : Steps w A n L) (hb : Below w.heap.size w w') : Steps w' A n L := by
  obtain ⟨h1, h0, h2⟩ := h
  refine ⟨h1, h0, h2.imp_right fun ⟨b, off, e, hc⟩ => ⟨b, off, e, fun i s hs => ?_⟩⟩
  obtain ⟨h3, h4, h5⟩ := hc i s hs
  refine ⟨fun j v hv => ?_, h4.below hb, h5⟩
  rw [hb.cell (p := ⟨b, off + i * 4 + j, none⟩) (cell_lt (h3 j v hv))]
  exact h3 j v hv
theorem Steps.one {w : World} {A : Option Addr} {n : Nat} {L : List Sp} (h : Steps w A n L) {k : Nat} (hk : k < n) : ∃ b off s, A = some ⟨b, off, none⟩ ∧ L[k]? = some s ∧ w.rangeAt b (off + k * 4) s.cells ∧ Bys w s.A s.b ∧ s.b.length ≤ s.c := by
  obtain ⟨h1, _, h2⟩ := h
  rcases h2 with h2 | ⟨b, off, rfl, h3⟩
  · omega
  · have hx : L[k]? = some (L[k]'(by omega)) := List.getElem?_eq_getElem (by omega)
    obtain ⟨h4, h5, h6⟩ := h3 k _ hx
    exact ⟨b, off, _, rfl, hx, h4, h5, h6⟩
/-- A slice of slices of bytes. -/
abbrev BPart := Option Addr × Nat × List UInt8
def prt (x : BPart) : Value := .slice x.1 x.2.2.length x.2.1
def LL (w : World) (A : Option Addr) (n : Nat) (L : List BPart) : Prop := L.length = n ∧ n ≤ maxLen ∧ (n = 0 ∨ ∃ b off : Nat, A = some ⟨b, off, none⟩ ∧ ∀ i x, L[i]? = some x → w.cell? ⟨b, off + i, none⟩ = some (prt x) ∧ Bys w x.1 x.2.2)
theorem byte_list {zs : List Int} {n : Nat} (h : ∀ z ∈ zs, (Lit.int .u8 z).wf = true) (hn : n ≤ zs.length) {i : Nat} (hi : i < n) : ((((zs.take n).map fun z => UInt8.ofNat z.toNat).getD i 0).toNat : Int) = zs.getD i 0 := by
  have hz1 : i < zs.length := by omega
  have hw := h (zs.getD i 0) (by rw [List.getD_eq_getElem?_getD, List.getElem?_eq_getElem hz1]; exact List.getElem_mem hz1)
  have hw2 := u8_wf hw
  have e : ((zs.take n).map fun z => UInt8.ofNat z.toNat).getD i 0 = UInt8.ofNat (zs.getD i 0).toNat := by
    simp [List.getD, hi, hz1]
  rw [e, toNat_ofInt hw2.1 hw2.2]
theorem open_B {H : Type} {enc : TypeId × Value → H} {W : World} {b b' : Nat} {held : Bool} {v : Value} {d : DataW H} {p : List MemPlace} (hval : Value.okWide Try.prog W .any b' 43 v)
    (h : DataW.Trod enc Try.prog W b (fun _ => true) held 43 v d p) : ∃ A n c L, v = .slice A n c ∧ LL W A n L := by
  obtain ⟨A, n, c, rfl⟩ := okWide_slice Try.underlying43 hval
  obtain ⟨fuel, hf⟩ := h
  rcases Go.Deep.open_int_rows Try.underlying43 Try.underlying27 Try.underlying5 (by kernel_rfl) (by kernel_rfl) hf with ⟨hcs, _⟩ | ⟨a, len, cap, A', L', C', Z', hcs, _, hl, hm, _, hr⟩
  · simp [Value.cells] at hcs
    obtain ⟨rfl, rfl, rfl⟩ := hcs
    exact ⟨none, 0, 0, [], rfl, rfl, by simp, .inl rfl⟩
  · simp [Value.cells] at hcs
    obtain ⟨rfl, rfl, rfl⟩ := hcs
    refine ⟨some a, n, _, (List.range n).map fun r => (A' r, C' r, ((Z' r).take (L' r)).map fun z => UInt8.ofNat z.toNat), rfl, by simp, Nat.le_trans hl hm, ?_⟩
    rcases Nat.eq_zero_or_pos n with h0 | h0
    · exact .inl h0
    · right
      have hsp := World.cell?_spot (hr 0 (by omega)).1
      obtain ⟨b0, off, spot⟩ := a
      have hs2 : spot = none := by simpa [Addr.add] using hsp
      subst hs2
      refine ⟨b0, off, rfl, fun i x hx => ?_⟩
      have hi : i < n := by
        have := (List.getElem?_eq_some_iff.1 hx).1
        simpa using this
      simp only [List.getElem?_map, List.getElem?_range hi, Option.map_some, Option.some.injEq] at hx
      subst hx
      obtain ⟨r1, r2, r3, r4, r5, r6, r7⟩ := hr i (by omega)
      rw [Go.WideShapes.add_plain] at r1
      have hlen : (((Z' i).take (L' i)).map fun z => UInt8.ofNat z.toNat).length = L' i := by simp; omega
      refine ⟨by rw [r1]; simp only [prt, hlen], ?_⟩
      rcases Nat.eq_zero_or_pos (L' i) with h1 | h1
      · exact .inl (List.eq_nil_of_length_eq_zero (by rw [hlen]; exact h1))
      · cases hA : A' i with
        | none => have := r6 hA; omega
        | some a' =>
          obtain ⟨_, hcell⟩ := r7 a' hA
          obtain ⟨b1, off1, spot1⟩ := a'
          have hs3 : spot1 = none := by simpa [Addr.add] using World.cell?_spot (hcell 0 (by omega))
          subst hs3
          refine .inr ⟨b1, off1, rfl, fun j hj => ?_⟩
          rw [hlen] at hj
          have := hcell j (by omega)
          rw [Go.WideShapes.add_plain] at this
          rw [this, byte_list r5 (by omega) hj]
theorem LL.below {w w' : World} {A : Option Addr} {n : Nat} {L : List BPart} (h : LL w A n L) (hb : Below w.heap.size w w') : LL w' A n L := by
  obtain ⟨h1, h0, h2⟩ := h
  refine ⟨h1, h0, h2.imp_right fun ⟨b, off, e, hc⟩ => ⟨b, off, e, fun i x hx => ?_⟩⟩
  obtain ⟨h3, h4⟩ := hc i x hx
  exact ⟨by rw [hb.cell (p := ⟨b, off + i, none⟩) (cell_lt h3)]; exact h3, h4.below hb⟩
theorem LL.one {w : World} {A : Option Addr} {n : Nat} {L : List BPart} (h : LL w A n L) {k : Nat} (hk : k < n) : ∃ b off x, A = some ⟨b, off, none⟩ ∧ L[k]? = some x ∧ w.cell? ⟨b, off + k, none⟩ = some (.slice x.1 x.2.2.length x.2.1) ∧ Bys w x.1 x.2.2 := by
  obtain ⟨h1, _, h2⟩ := h
  rcases h2 with h2 | ⟨b, off, rfl, h3⟩
  · omega
  · have hx : L[k]? = some (L[k]'(by omega)) := List.getElem?_eq_getElem (by omega)
    obtain ⟨h4, h5⟩ := h3 k _ hx
    exact ⟨b, off, _, rfl, hx, h4, h5⟩
end Go.Proofs.Ytglhjfcngpednaa
