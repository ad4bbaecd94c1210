/- Fields in memory: blocks of any cells that a call keeps, beside slices of holds that lie apart from them; the cells of a field, and what the operations on them do. -/
import Derived.Test.YtbaccghnneidgaaGreatHoRow
import Derived.Test.YtbaccghnneidgaaGreatCtw
import Derived.Test.YtbaccghnneidgaaGreatLkw
namespace Go.Proofs.YtbaccghnneidgaaGreat
set_option maxRecDepth 100000
open Go.ChangeShapes Go.WideShapes Go.ChangeAt Go.RowKit

/-! ### Cells. -/
/-- A block of its own that holds these cells, of some type. -/
def Cel (w : World) (b : Nat) (t : TypeId) (cs : List Value) : Prop := w.heap[b]? = some (.cells cs.toArray t (0, 0))
theorem Cel.lt {w : World} {b : Nat} {t : TypeId} {cs : List Value} (h : Cel w b t cs) : b < w.heap.size := (Array.getElem?_eq_some_iff.1 h).1
theorem Cel.cell {w : World} {b : Nat} {t : TypeId} {cs : List Value} (h : Cel w b t cs) {k : Nat} {v : Value} (hk : cs[k]? = some v) : w.cell? ⟨b, k, none⟩ = some v := by
  rw [cell_of_row w b k _ t (0, 0) h]
  simpa using hk
theorem Cel.range {w : World} {b : Nat} {t : TypeId} {cs : List Value} (h : Cel w b t cs) {o : Nat} {xs : List Value} (hx : ∀ j v, xs[j]? = some v → cs[o + j]? = some v) : w.rangeAt b o xs := fun j v hv => h.cell (hx j v hv)
theorem Cel.frozen {w : World} {b : Nat} {t : TypeId} {cs : List Value} (h : Cel w b t cs) (k : Nat) : w.frozen? ⟨b, k, none⟩ = false := frozen_of_row w b k _ t h
theorem Cel.there {w : World} {b : Nat} {t : TypeId} {cs : List Value} (h : Cel w b t cs) {o n : Nat} (hn : o + n ≤ cs.length) : w.there b o n := fun j hj => by
  refine ⟨?_, h.frozen _⟩
  rw [h.cell (v := cs[o + j]'(by omega)) (List.getElem?_eq_getElem (by omega))]; rfl
theorem Cel.below {w w' : World} {b : Nat} {t : TypeId} {cs : List Value} (h : Cel w b t cs) {B : Nat} (hb : Below B w w') (hl : b < B) : Cel w' b t cs := (hb.block b hl).trans h
theorem Cel.new (w : World) (t : TypeId) (cs : List Value) : Cel (w.alloc (.cells cs.toArray t)) w.heap.size t cs := heap_alloc_new w _
theorem Cel.setCell {w : World} {b : Nat} {t : TypeId} {cs : List Value} (h : Cel w b t cs) (k : Nat) (v : Value) : Cel (w.setCell ⟨b, k, none⟩ v) b t (cs.set k v) := by
  unfold Cel
  rw [heap_setCell_same w b k _ t _ h]
  simp
/-- vs in the place of what lay from o on. -/
def spl (R : List Value) : Nat → List Value → List Value
  | _, [] => R
  | o, v :: vs => spl (R.set o v) (o + 1) vs
theorem spl_mid : ∀ (new old pre post : List Value), old.length = new.length → spl (pre ++ (old ++ post)) pre.length new = pre ++ (new ++ post)
  | [], [], pre, post, _ => by simp [spl]
  | v :: new, x :: old, pre, post, h => by
    have ih := spl_mid new old (pre ++ [v]) post (by simpa using h)
    have e : (pre ++ (x :: old ++ post)).set pre.length v = (pre ++ [v]) ++ (old ++ post) := by
      rw [List.set_append_right _ _ (Nat.le_refl _)]
      simp
    rw [spl, e]
    simpa using ih
theorem Cel.setCells {b : Nat} {t : TypeId} : ∀ (vs : List Value) {w : World} {cs : List Value} (_ : Cel w b t cs) (o : Nat), Cel (w.setCells b o vs) b t (spl cs o vs)
  | [], _, _, h, _ => h
  | v :: vs, _, _, h, o => Cel.setCells vs (h.setCell o v) (o + 1)
theorem below_cells {B b : Nat} {a : World} (hg : B ≤ b) : ∀ (vs : List Value) {w : World} (_ : Below B a w) (o : Nat), Below B a (w.setCells b o vs)
  | [], _, h, _ => h
  | v :: vs, _, h, o => below_cells hg vs (h.setCell (p := ⟨b, o, none⟩) hg v) (o + 1)
theorem cell_heap {u u' : World} {a : Addr} (h : u'.heap[a.block]? = u.heap[a.block]?) : u'.cell? a = u.cell? a := by simp [World.cell?, h]
/-- A slice of holds whose block was not touched. -/
theorem Row.else {u u' : World} {A : Option Addr} {n : Nat} {hs : List Ho} (h : Row u A n hs) (he : ∀ a, A = some a → 0 < n → u'.heap[a.block]? = u.heap[a.block]?) : Row u' A n hs := by
  obtain ⟨h1, h2, h3⟩ := h
  refine ⟨h1, h2, ?_⟩
  rcases h3 with h0 | ⟨b, off, rfl, hc⟩
  · exact .inl h0
  · rcases Nat.eq_zero_or_pos n with h0 | h0
    · exact .inl h0
    · exact .inr ⟨b, off, rfl, fun k hk j v hv => by rw [cell_heap (a := ⟨b, off + k * 5 + j, none⟩) (he ⟨b, off, none⟩ rfl h0)]; exact hc k hk j v hv⟩
theorem Row.lt {u : World} {A : Option Addr} {n : Nat} {hs : List Ho} (h : Row u A n hs) {a : Addr} (ha : A = some a) (hn : 0 < n) : a.block < u.heap.size := by
  obtain ⟨b, off, rfl, hc⟩ := h.at hn
  injection ha with ha
  subst ha
  exact range_lt (hc 0 hn)

/-! ### What is kept. -/
/-- Below w's end all is as it was; these blocks of the call's own lie there; these slices of holds read so, and lie in none of them. -/
structure KeepF (w : World) (l : List (Nat × TypeId × List Value)) (rows : List (Option Addr × Nat × List Ho)) (u : World) : Prop where
  bel : Below w.heap.size w u
  blk : ∀ x ∈ l, w.heap.size ≤ x.1 ∧ Cel u x.1 x.2.1 x.2.2
  apart : (l.map Prod.fst).Nodup
  row : ∀ r ∈ rows, Row u r.1 r.2.1 r.2.2
  free : ∀ r ∈ rows, ∀ x ∈ l, ∀ a, r.1 = some a → 0 < r.2.1 → a.block ≠ x.1
section
variable {w u u' : World} {l : List (Nat × TypeId × List Value)} {rows : List (Option Addr × Nat × List Ho)}
theorem KeepF.start (h : ∀ r ∈ rows, Row w r.1 r.2.1 r.2.2) : KeepF w [] rows w := ⟨Below.refl _ _, by simp, by simp, h, by simp⟩
theorem KeepF.get (h : KeepF w l rows u) (i : Nat) {b : Nat} {t : TypeId} {cs : List Value} (hi : l[i]? = some (b, t, cs)) : Cel u b t cs := (h.blk _ (List.mem_of_getElem? hi)).2
theorem KeepF.rowAt (h : KeepF w l rows u) (i : Nat) {A : Option Addr} {n : Nat} {hs : List Ho} (hi : rows[i]? = some (A, n, hs)) : Row u A n hs := h.row _ (List.mem_of_getElem? hi)
theorem KeepF.call (h : KeepF w l rows u) (hb : Below u.heap.size u u') : KeepF w l rows u' :=
  ⟨h.bel.trans (hb.mono h.bel.size), fun x hx => ⟨(h.blk x hx).1, (h.blk x hx).2.below hb (h.blk x hx).2.lt⟩, h.apart, fun r hr => (h.row r hr).call hb, h.free⟩
theorem KeepF.drew (h : KeepF w l rows u) : KeepF w l rows u.drew := ⟨h.bel.drew, h.blk, h.apart, h.row, h.free⟩
theorem KeepF.cons (h : KeepF w l rows u) (hb : Below u.heap.size u u') {b : Nat} {t : TypeId} {cs : List Value} (hn : b = u.heap.size) (hB : Cel u' b t cs) : KeepF w ((b, t, cs) :: l) rows u' := by
  have h1 := h.call hb
  refine ⟨h1.bel, fun x hx => ?_, ?_, h1.row, fun r hr x hx a ha h0 => ?_⟩
  · rcases List.mem_cons.1 hx with rfl | hx
    · exact ⟨hn ▸ h.bel.size, hB⟩
    · exact h1.blk x hx
  · simp only [List.map_cons, List.nodup_cons]
    refine ⟨fun hm => ?_, h.apart⟩
    obtain ⟨x, hx, e⟩ := List.mem_map.1 hm
    have := (h.blk x hx).2.lt
    omega
  · rcases List.mem_cons.1 hx with rfl | hx
    · have := (h.row r hr).lt ha h0
      simp only
      omega
    · exact h.free r hr x hx a ha h0
theorem KeepF.new (h : KeepF w l rows u) {t : TypeId} {cs : List Value} {n : Nat} (hn : n = u.heap.size) : KeepF w ((n, t, cs) :: l) rows (u.alloc (.cells cs.toArray t)) :=
  h.cons ((Below.refl _ _).alloc (Nat.le_refl _) _) hn (by rw [hn]; exact Cel.new u t cs)
theorem KeepF.tail {x : Nat × TypeId × List Value} (h : KeepF w (x :: l) rows u) : KeepF w l rows u :=
  ⟨h.bel, fun y hy => h.blk y (List.mem_cons_of_mem _ hy), (List.nodup_cons.1 (by simpa using h.apart)).2, h.row, fun r hr y hy => h.free r hr y (List.mem_cons_of_mem _ hy)⟩
/-- Nothing of the call's own is looked at any more. -/
theorem KeepF.bare (h : KeepF w l rows u) : KeepF w [] rows u := ⟨h.bel, by simp, by simp, h.row, by simp⟩
/-- Other slices are looked at. -/
theorem KeepF.look {rows' : List (Option Addr × Nat × List Ho)} (h : KeepF w l rows u) (hr : ∀ r ∈ rows', r ∈ rows) : KeepF w l rows' u := ⟨h.bel, h.blk, h.apart, fun r h1 => h.row r (hr r h1), fun r h1 => h.free r (hr r h1)⟩
/-- One slice more, that a call made. -/
theorem KeepF.own (h : KeepF w l rows u) (hb : Below u.heap.size u u') {A : Option Addr} {n c : Nat} {hs : List Ho} (ho : Own u' u.heap.size (.slice A n c) hs) (hn : hs.length ≤ 1000) : KeepF w l ((A, n, hs) :: rows) u' := by
  have h1 := h.call hb
  refine ⟨h1.bel, h1.blk, h1.apart, fun r hr => ?_, fun r hr x hx a ha h0 => ?_⟩
  · rcases List.mem_cons.1 hr with rfl | hr
    · exact ho.row hn
    · exact h1.row r hr
  · rcases List.mem_cons.1 hr with rfl | hr
    · have h2 := (h.blk x hx).2.lt
      have h3 : a.block ≥ u.heap.size := by
        have h4 : (Value.slice A n c).ownBlock = some a.block → u.heap.size ≤ a.block := fun e => own_baseH ho _ e
        simp only at ha
        subst ha
        rcases ho.2 with ⟨e, _⟩ | ⟨g, cap, cur, e, h5, _⟩
        · injection e with e1 e2 e3; cases e1
        · injection e with e1 e2 e3
          injection e1 with e1
          subst e1
          exact h5
      omega
    · exact h1.free r hr x hx a ha h0
/-- A kept block is written. -/
theorem KeepF.put (h : KeepF w l rows u) (i : Nat) {b : Nat} {t : TypeId} {R : List Value} (hi : l[i]? = some (b, t, R)) {S : List Value} (hB : Cel u' b t S)
    (hb : ∀ (k : Nat), k ≠ b → u'.heap[k]? = u.heap[k]?) (hbel : Below w.heap.size w u') : KeepF w (l.set i (b, t, S)) rows u' := by
  have hm := List.mem_of_getElem? hi
  have hfst : (l.set i (b, t, S)).map Prod.fst = l.map Prod.fst := by
    rw [List.map_set]
    apply List.ext_getElem?
    intro j
    rw [List.getElem?_set]
    split
    · rename_i e; subst e
      split
      · simp [hi]
      · rename_i hl; simp only [List.length_map] at hl; have := (List.getElem?_eq_some_iff.1 hi).1; omega
    · rfl
  refine ⟨hbel, fun x hx => ?_, by rw [hfst]; exact h.apart, fun r hr => (h.row r hr).else fun a ha h0 => hb _ (h.free r hr _ hm a ha h0), fun r hr x hx a ha h0 => ?_⟩
  · obtain ⟨j, hj⟩ := List.mem_iff_getElem?.1 hx
    rw [List.getElem?_set] at hj
    by_cases hij : i = j
    · rw [if_pos hij] at hj
      split at hj
      · injection hj with hj; subst hj
        exact ⟨(h.blk _ hm).1, hB⟩
      · cases hj
    · rw [if_neg hij] at hj
      have h1 := h.blk x (List.mem_of_getElem? hj)
      refine ⟨h1.1, ?_⟩
      have hne : x.1 ≠ b := fun e => hij (nodup_get h.apart (x := b) (by simp [hi]) (by simp [hj, e]))
      exact (hb x.1 hne).trans h1.2
  · rcases List.mem_or_eq_of_mem_set hx with hx | rfl
    · exact h.free r hr x hx a ha h0
    · exact h.free r hr _ hm a ha h0
theorem KeepF.setCells (h : KeepF w l rows u) (i : Nat) {b : Nat} {t : TypeId} {R : List Value} (hi : l[i]? = some (b, t, R)) (o : Nat) (vs : List Value) : KeepF w (l.set i (b, t, spl R o vs)) rows (u.setCells b o vs) :=
  have h1 := h.blk _ (List.mem_of_getElem? hi)
  h.put i hi (h1.2.setCells vs o) (setCells_else b vs o u) (below_cells h1.1 vs h.bel o)
theorem KeepF.setCell (h : KeepF w l rows u) (i : Nat) {b : Nat} {t : TypeId} {R : List Value} (hi : l[i]? = some (b, t, R)) (o : Nat) (v : Value) : KeepF w (l.set i (b, t, R.set o v)) rows (u.setCell ⟨b, o, none⟩ v) :=
  have h1 := h.blk _ (List.mem_of_getElem? hi)
  h.put i hi (h1.2.setCell o v) (fun k hk => heap_setCell_other u ⟨b, o, none⟩ k _ hk) (h.bel.setCell (p := ⟨b, o, none⟩) h1.1 v)
end
end Go.Proofs.YtbaccghnneidgaaGreat
