/- Fields in memory: blocks of any cells that a call keeps, beside slices of holds that lie apart from them; the cells of a field, and what the operations on them do. A field's cells (its name, kind, epoch, counter, lock, and the slice of its holds), and what the operations on kept blocks do: boxes, zeros, loads and stores of a cell or of a part. -/
import Derived.Test.YtofngihdnjgmeaaLHoRow
import Derived.Test.YtofngihdnjgmeaaLRtc
import Derived.Test.YtofngihdnjgmeaaLLkk
namespace Go.Proofs.Ytofngihdnjgmeaa
set_option maxRecDepth 100000
open Go.ChangeShapes Go.WideShapes Go.ChangeAt Go.RowKit

/-! ### Cells. -/
/-- A block of its own that holds these cells, of some type. -/
def Cel (w : World) (b : Nat) (t : TypeId) (cs : List Value) : Prop := w.heap[b]? = some (.cells cs.toArray t (0, 0))
theorem Cel.lt {w : World} {b : Nat} {t : TypeId} {cs : List Value} (h : Cel w b t cs) : b < w.heap.size := (Array.getElem?_eq_some_iff.1 h).1
theorem Cel.cell {w : World} {b : Nat} {t : TypeId} {cs : List Value} (h : Cel w b t cs) {k : Nat} {v : Value} (hk : cs[k]? = some v) : w.cell? ⟨b, k, none⟩ = some v := by
  rw [cell_of_row w b k _ t (0, 0) h]
  simpa using hk
theorem Cel.range {w : World} {b : Nat} {t : TypeId} {cs : List Value} (h : Cel w b t cs) {o : Nat} {xs : List Value} (hx : ∀ j v, xs[j]? = some v → cs[o + j]? = some v) : w.rangeAt b o xs := fun j v hv => h.cell (hx j v hv)
theorem Cel.frozen {w : World} {b : Nat} {t : TypeId} {cs : List Value} (h : Cel w b t cs) (k : Nat) : w.frozen? ⟨b, k, none⟩ = false := frozen_of_row w b k _ t h
theorem Cel.there {w : World} {b : Nat} {t : TypeId} {cs : List Value} (h : Cel w b t cs) {o n : Nat} (hn : o + n ≤ cs.length) : w.there b o n := fun j hj => by
  refine ⟨?_, h.frozen _⟩
  rw [h.cell (v := cs[o + j]'(by omega)) (List.getElem?_eq_getElem (by omega))]; rfl
theorem Cel.below {w w' : World} {b : Nat} {t : TypeId} {cs : List Value} (h : Cel w b t cs) {B : Nat} (hb : Below B w w') (hl : b < B) : Cel w' b t cs := (hb.block b hl).trans h
theorem Cel.new (w : World) (t : TypeId) (cs : List Value) : Cel (w.alloc (.cells cs.toArray t)) w.heap.size t cs := heap_alloc_new w _
theorem Cel.setCell {w : World} {b : Nat} {t : TypeId} {cs : List Value} (h : Cel w b t cs) (k : Nat) (v : Value) : Cel (w.setCell ⟨b, k, none⟩ v) b t (cs.set k v) := by
  unfold Cel
  rw [heap_setCell_same w b k _ t _ h]
  simp
/-- vs in the place of what lay from o on. -/
def spl (R : List Value) : Nat → List Value → List Value
  | _, [] => R
  | o, v :: vs => spl (R.set o v) (o + 1) vs
theorem spl_mid : ∀ (new old pre post : List Value), old.length = new.length → spl (pre ++ (old ++ post)) pre.length new = pre ++ (new ++ post)
  | [], [], pre, post, _ => by simp [spl]
  | v :: new, x :: old, pre, post, h => by
    have ih := spl_mid new old (pre ++ [v]) post (by simpa using h)
    have e : (pre ++ (x :: old ++ post)).set pre.length v = (pre ++ [v]) ++ (old ++ post) := by
      rw [List.set_append_right _ _ (Nat.le_refl _)]
      simp
    rw [spl, e]
    simpa using ih
theorem Cel.setCells {b : Nat} {t : TypeId} : ∀ (vs : List Value) {w : World} {cs : List Value} (_ : Cel w b t cs) (o : Nat), Cel (w.setCells b o vs) b t (spl cs o vs)
  | [], _, _, h, _ => h
  | v :: vs, _, _, h, o => Cel.setCells vs (h.setCell o v) (o + 1)
theorem below_cells {B b : Nat} {a : World} (hg : B ≤ b) : ∀ (vs : List Value) {w : World} (_ : Below B a w) (o : Nat), Below B a (w.setCells b o vs)
  | [], _, h, _ => h
  | v :: vs, _, h, o => below_cells hg vs (h.setCell (p := ⟨b, o, none⟩) hg v) (o + 1)
theorem cell_heap {u u' : World} {a : Addr} (h : u'.heap[a.block]? = u.heap[a.block]?) : u'.cell? a = u.cell? a := by simp [World.cell?, h]
/-- A slice of holds whose block was not touched. -/
theorem Row.else {u u' : World} {A : Option Addr} {n : Nat} {hs : List Ho} (h : Row u A n hs) (he : ∀ a, A = some a → 0 < n → u'.heap[a.block]? = u.heap[a.block]?) : Row u' A n hs := by
  obtain ⟨h1, h2, h3⟩ := h
  refine ⟨h1, h2, ?_⟩
  rcases h3 with h0 | ⟨b, off, rfl, hc⟩
  · exact .inl h0
  · rcases Nat.eq_zero_or_pos n with h0 | h0
    · exact .inl h0
    · exact .inr ⟨b, off, rfl, fun k hk j v hv => by rw [cell_heap (a := ⟨b, off + k * 5 + j, none⟩) (he ⟨b, off, none⟩ rfl h0)]; exact hc k hk j v hv⟩
theorem Row.lt {u : World} {A : Option Addr} {n : Nat} {hs : List Ho} (h : Row u A n hs) {a : Addr} (ha : A = some a) (hn : 0 < n) : a.block < u.heap.size := by
  obtain ⟨b, off, rfl, hc⟩ := h.at hn
  injection ha with ha
  subst ha
  exact range_lt (hc 0 hn)

/-! ### What is kept. -/
/-- Below w's end all is as it was; these blocks of the call's own lie there; these slices of holds read so, and lie in none of them. -/
structure KeepF (w : World) (l : List (Nat × TypeId × List Value)) (rows : List (Option Addr × Nat × List Ho)) (u : World) : Prop where
  bel : Below w.heap.size w u
  blk : ∀ x ∈ l, w.heap.size ≤ x.1 ∧ Cel u x.1 x.2.1 x.2.2
  apart : (l.map Prod.fst).Nodup
  row : ∀ r ∈ rows, Row u r.1 r.2.1 r.2.2
  free : ∀ r ∈ rows, ∀ x ∈ l, ∀ a, r.1 = some a → 0 < r.2.1 → a.block ≠ x.1
section
variable {w u u' : World} {l : List (Nat × TypeId × List Value)} {rows : List (Option Addr × Nat × List Ho)}
theorem KeepF.start (h : ∀ r ∈ rows, Row w r.1 r.2.1 r.2.2) : KeepF w [] rows w := ⟨Below.refl _ _, by simp, by simp, h, by simp⟩
theorem KeepF.get (h : KeepF w l rows u) (i : Nat) {b : Nat} {t : TypeId} {cs : List Value} (hi : l[i]? = some (b, t, cs)) : Cel u b t cs := (h.blk _ (List.mem_of_getElem? hi)).2
theorem KeepF.rowAt (h : KeepF w l rows u) (i : Nat) {A : Option Addr} {n : Nat} {hs : List Ho} (hi : rows[i]? = some (A, n, hs)) : Row u A n hs := h.row _ (List.mem_of_getElem? hi)
theorem KeepF.call (h : KeepF w l rows u) (hb : Below u.heap.size u u') : KeepF w l rows u' :=
  ⟨h.bel.trans (hb.mono h.bel.size), fun x hx => ⟨(h.blk x hx).1, (h.blk x hx).2.below hb (h.blk x hx).2.lt⟩, h.apart, fun r hr => (h.row r hr).call hb, h.free⟩
theorem KeepF.drew (h : KeepF w l rows u) : KeepF w l rows u.drew := ⟨h.bel.drew, h.blk, h.apart, h.row, h.free⟩
theorem KeepF.cons (h : KeepF w l rows u) (hb : Below u.heap.size u u') {b : Nat} {t : TypeId} {cs : List Value} (hn : b = u.heap.size) (hB : Cel u' b t cs) : KeepF w ((b, t, cs) :: l) rows u' := by
  have h1 := h.call hb
  refine ⟨h1.bel, fun x hx => ?_, ?_, h1.row, fun r hr x hx a ha h0 => ?_⟩
  · rcases List.mem_cons.1 hx with rfl | hx
    · exact ⟨hn ▸ h.bel.size, hB⟩
    · exact h1.blk x hx
  · simp only [List.map_cons, List.nodup_cons]
    refine ⟨fun hm => ?_, h.apart⟩
    obtain ⟨x, hx, e⟩ := List.mem_map.1 hm
    have := (h.blk x hx).2.lt
    omega
  · rcases List.mem_cons.1 hx with rfl | hx
    · have := (h.row r hr).lt ha h0
      simp only
      omega
    · exact h.free r hr x hx a ha h0
theorem KeepF.new (h : KeepF w l rows u) {t : TypeId} {cs : List Value} {n : Nat} (hn : n = u.heap.size) : KeepF w ((n, t, cs) :: l) rows (u.alloc (.cells cs.toArray t)) :=
  h.cons ((Below.refl _ _).alloc (Nat.le_refl _) _) hn (by rw [hn]; exact Cel.new u t cs)
theorem KeepF.tail {x : Nat × TypeId × List Value} (h : KeepF w (x :: l) rows u) : KeepF w l rows u :=
  ⟨h.bel, fun y hy => h.blk y (List.mem_cons_of_mem _ hy), (List.nodup_cons.1 (by simpa using h.apart)).2, h.row, fun r hr y hy => h.free r hr y (List.mem_cons_of_mem _ hy)⟩
/-- Other slices are looked at. -/
theorem KeepF.look {rows' : List (Option Addr × Nat × List Ho)} (h : KeepF w l rows u) (hr : ∀ r ∈ rows', r ∈ rows) : KeepF w l rows' u := ⟨h.bel, h.blk, h.apart, fun r h1 => h.row r (hr r h1), fun r h1 => h.free r (hr r h1)⟩
/-- One slice more, that a call made. -/
theorem KeepF.own (h : KeepF w l rows u) (hb : Below u.heap.size u u') {A : Option Addr} {n c : Nat} {hs : List Ho} (ho : Own u' u.heap.size (.slice A n c) hs) (hn : hs.length ≤ 1000) : KeepF w l ((A, n, hs) :: rows) u' := by
  have h1 := h.call hb
  refine ⟨h1.bel, h1.blk, h1.apart, fun r hr => ?_, fun r hr x hx a ha h0 => ?_⟩
  · rcases List.mem_cons.1 hr with rfl | hr
    · exact ho.row hn
    · exact h1.row r hr
  · rcases List.mem_cons.1 hr with rfl | hr
    · have h2 := (h.blk x hx).2.lt
      have h3 : a.block ≥ u.heap.size := by
        have h4 : (Value.slice A n c).ownBlock = some a.block → u.heap.size ≤ a.block := fun e => own_baseH ho _ e
        simp only at ha
        subst ha
        rcases ho.2 with ⟨e, _⟩ | ⟨g, cap, cur, e, h5, _⟩
        · injection e with e1 e2 e3; cases e1
        · injection e with e1 e2 e3
          injection e1 with e1
          subst e1
          exact h5
      omega
    · exact h1.free r hr x hx a ha h0
/-- A kept block is written. -/
theorem KeepF.put (h : KeepF w l rows u) (i : Nat) {b : Nat} {t : TypeId} {R : List Value} (hi : l[i]? = some (b, t, R)) {S : List Value} (hB : Cel u' b t S)
    (hb : ∀ (k : Nat), k ≠ b → u'.heap[k]? = u.heap[k]?) (hbel : Below w.heap.size w u') : KeepF w (l.set i (b, t, S)) rows u' := by
  have hm := List.mem_of_getElem? hi
  have hfst : (l.set i (b, t, S)).map Prod.fst = l.map Prod.fst := by
    rw [List.map_set]
    apply List.ext_getElem?
    intro j
    rw [List.getElem?_set]
    split
    · rename_i e; subst e
      split
      · simp [hi]
      · rename_i hl; simp only [List.length_map] at hl; have := (List.getElem?_eq_some_iff.1 hi).1; omega
    · rfl
  refine ⟨hbel, fun x hx => ?_, by rw [hfst]; exact h.apart, fun r hr => (h.row r hr).else fun a ha h0 => hb _ (h.free r hr _ hm a ha h0), fun r hr x hx a ha h0 => ?_⟩
  · obtain ⟨j, hj⟩ := List.mem_iff_getElem?.1 hx
    rw [List.getElem?_set] at hj
    by_cases hij : i = j
    · rw [if_pos hij] at hj
      split at hj
      · injection hj with hj; subst hj
        exact ⟨(h.blk _ hm).1, hB⟩
      · cases hj
    · rw [if_neg hij] at hj
      have h1 := h.blk x (List.mem_of_getElem? hj)
      refine ⟨h1.1, ?_⟩
      have hne : x.1 ≠ b := fun e => hij (nodup_get h.apart (x := b) (by simp [hi]) (by simp [hj, e]))
      exact (hb x.1 hne).trans h1.2
  · rcases List.mem_or_eq_of_mem_set hx with hx | rfl
    · exact h.free r hr x hx a ha h0
    · exact h.free r hr _ hm a ha h0
theorem KeepF.setCells (h : KeepF w l rows u) (i : Nat) {b : Nat} {t : TypeId} {R : List Value} (hi : l[i]? = some (b, t, R)) (o : Nat) (vs : List Value) : KeepF w (l.set i (b, t, spl R o vs)) rows (u.setCells b o vs) :=
  have h1 := h.blk _ (List.mem_of_getElem? hi)
  h.put i hi (h1.2.setCells vs o) (setCells_else b vs o u) (below_cells h1.1 vs h.bel o)
theorem KeepF.setCell (h : KeepF w l rows u) (i : Nat) {b : Nat} {t : TypeId} {R : List Value} (hi : l[i]? = some (b, t, R)) (o : Nat) (v : Value) : KeepF w (l.set i (b, t, R.set o v)) rows (u.setCell ⟨b, o, none⟩ v) :=
  have h1 := h.blk _ (List.mem_of_getElem? hi)
  h.put i hi (h1.2.setCell o v) (fun k hk => heap_setCell_other u ⟨b, o, none⟩ k _ hk) (h.bel.setCell (p := ⟨b, o, none⟩) h1.1 v)
end
end Go.Proofs.Ytofngihdnjgmeaa

namespace Go.Proofs.Ytofngihdnjgmeaa
set_option maxRecDepth 100000
open Go.ChangeShapes Go.WideShapes Go.ChangeAt Go.RowKit

/-- A field, as its cells tell it: the holds by their slice alone. -/
structure Fd where
  nm : ByteArray
  k : Int
  e : Int
  C : List Int
  L : Lk
  A : Option Addr
  n : Nat
  c : Nat
def Fd.cells (f : Fd) : List Value := [.string f.nm, .int .i64 f.k, .int .i64 f.e] ++ (vals f.C ++ (vals f.L.l ++ [.slice f.A f.n f.c]))
def Fd.val (f : Fd) : Value := .agg f.cells.toArray
/-- The zero field. -/
def zL : Lk := ⟨0, 0, 0, 0⟩
def zF : Fd := ⟨ByteArray.empty, 0, 0, zer 579, zL, none, 0, 0⟩
def Fd.full (f : Fd) : Prop := f.C.length = 579
theorem Fd.len {f : Fd} (h : f.full) : f.cells.length = 587 := by
  have h : f.C.length = 579 := h
  simp [Fd.cells, vals_length, Lk.len, h]
theorem Fd.c0 (f : Fd) : f.cells[0]? = some (.string f.nm) := rfl
theorem Fd.c1 (f : Fd) : f.cells[1]? = some (.int .i64 f.k) := rfl
theorem Fd.c2 (f : Fd) : f.cells[2]? = some (.int .i64 f.e) := rfl
theorem Fd.cC (f : Fd) : ∀ j v, (vals f.C)[j]? = some v → f.cells[3 + j]? = some v := by
  intro j v hv
  have hj := (List.getElem?_eq_some_iff.1 hv).1
  rw [Fd.cells, List.getElem?_append_right (by simp), List.getElem?_append_left (by simpa using hj)]
  simpa using hv
theorem Fd.cL {f : Fd} (h : f.full) : ∀ j v, (vals f.L.l)[j]? = some v → f.cells[582 + j]? = some v := by
  intro j v hv
  have h : f.C.length = 579 := h
  have hj := (List.getElem?_eq_some_iff.1 hv).1
  rw [Fd.cells, List.getElem?_append_right (by simp; omega), List.getElem?_append_right (by simp [vals_length, h]; omega), List.getElem?_append_left (by simp [vals_length, h]; simp [vals_length] at hj; omega)]
  simp only [vals_length, h, List.length_cons, List.length_nil]
  rw [show 582 + j - (0 + 1 + 1 + 1) - 579 = j by omega]
  exact hv
theorem Fd.cH {f : Fd} (h : f.full) : f.cells[586]? = some (.slice f.A f.n f.c) := by
  have h : f.C.length = 579 := h
  rw [Fd.cells, List.getElem?_append_right (by simp), List.getElem?_append_right (by simp [vals_length, h]), List.getElem?_append_right (by simp [vals_length, h, Lk.len])]
  simp [vals_length, h, Lk.len]
theorem Fd.all (f : Fd) : ∀ j v, f.cells[j]? = some v → f.cells[0 + j]? = some v := fun j v h => by rw [Nat.zero_add]; exact h
theorem Fd.one (f : Fd) : f.cells.toArray.all (·.oneCell') = true := all_oneCell_toArray (by
  intro v hv
  simp only [Fd.cells, List.mem_append, List.mem_cons, List.not_mem_nil, or_false] at hv
  rcases hv with (rfl | rfl | rfl) | hv | hv | rfl
  · rfl
  · rfl
  · rfl
  · exact vals_one _ v hv
  · exact vals_one _ v hv
  · rfl)
/-- Other parts in their place. -/
theorem Fd.setC {f : Fd} (h : f.full) {D : List Int} (hD : D.length = 579) : spl f.cells 3 (vals D) = { f with C := D }.cells :=
  spl_mid (vals D) (vals f.C) [.string f.nm, .int .i64 f.k, .int .i64 f.e] _ (by rw [vals_length, vals_length, hD]; exact h)
theorem Fd.setH {f : Fd} (h : f.full) (A : Option Addr) (n c : Nat) : f.cells.set 586 (.slice A n c) = { f with A := A, n := n, c := c }.cells := by
  have h : f.C.length = 579 := h
  have := spl_mid [.slice A n c] [.slice f.A f.n f.c] ([.string f.nm, .int .i64 f.k, .int .i64 f.e] ++ (vals f.C ++ vals f.L.l)) [] (by simp)
  simp only [List.length_append, vals_length, h, List.length_cons, List.length_nil, List.append_assoc, Lk.len, spl, List.append_nil] at this
  exact this
theorem Fd.setAll {f g : Fd} (h : f.full) (hg : g.full) : spl f.cells 0 g.cells = g.cells := by
  have := spl_mid g.cells f.cells [] [] (by rw [Fd.len h, Fd.len hg])
  simpa using this
theorem f_info : (Try.prog.info? 33).map (·.size) = some 587 := by kernel_rfl
theorem f_zero : (Try.prog.info? 33).bind (·.zero) = some (.agg zF.cells.toArray) := by kernel_rfl
theorem f_build (W : World) : (Instr.build 33 #[]).run Try.prog W = .ok zF.val W := by kernel_rfl

section
variable {ops : Array Oper} {rest : List Oper} {o : Oper} {a : Act} {w u : World} {l : List (Nat × TypeId × List Value)} {rows : List (Option Addr × Nat × List Ho)} {Q : Exit → Act → World → Prop} {K : Act → World → Prop}
/-- A value, boxed. -/
theorem wp_box_f (hk : KeepF w l rows u) {ty : TypeId} (x : Operand) (ho : o.op = .box ty x) {cs : List Value} (hx : a.eval x = .agg cs.toArray)
    (h : ∀ b u', KeepF w ((b, ty, cs) :: l) rows u' → K (a.put o.dst (.pointer (some ⟨b, 0, none⟩))) u') : o.wp Try.prog a u K Q := by
  have e : (Instr.box ty (.agg cs.toArray)).run Try.prog u = .ok (.pointer (some ⟨u.heap.size, 0, none⟩)) (u.alloc (.cells cs.toArray ty)) := by
    simp [Instr.box, newVar, newRow, newObj, Value.cells]
    rfl
  unfold Oper.wp execOp
  simp only [ho, hx, Sem.run_bind, Sem.run_pure, Result.andThen_ok, e]
  exact h _ _ (hk.new rfl)
theorem box_f (hk : KeepF w l rows u) {ty : TypeId} (hgd : o.guard = none) (x : Operand) (ho : o.op = .box ty x) {cs : List Value} (hx : a.eval x = .agg cs.toArray)
    (h : ∀ b u', KeepF w ((b, ty, cs) :: l) rows u' → wpList Try.prog ops Q rest (a.put o.dst (.pointer (some ⟨b, 0, none⟩))) u') : wpList Try.prog ops Q (o :: rest) a u :=
  wpList_plain hgd fun _ hK => wp_box_f hk x ho hx fun b u' h' => hK _ _ (h b u' h')
/-- An int, boxed. -/
theorem box_fi (hk : KeepF w l rows u) (hgd : o.guard = none) (x : Operand) (ho : o.op = .box 3 x) {z : Int} (hx : a.eval x = .int .i64 z)
    (h : ∀ b u', KeepF w ((b, 3, [.int .i64 z]) :: l) rows u' → wpList Try.prog ops Q rest (a.put o.dst (.pointer (some ⟨b, 0, none⟩))) u') : wpList Try.prog ops Q (o :: rest) a u :=
  wpList_plain hgd fun K hK => by
    have e : (Instr.box 3 (.int .i64 z)).run Try.prog u = .ok (.pointer (some ⟨u.heap.size, 0, none⟩)) (u.alloc (.cells [.int .i64 z].toArray 3)) := by
      simp [Instr.box, newVar, newRow, newObj, Value.cells]
      rfl
    unfold Oper.wp execOp
    simp only [ho, hx, Sem.run_bind, Sem.run_pure, Result.andThen_ok, e]
    exact hK _ _ (h _ _ (hk.new rfl))
/-- A new variable of zeros. -/
theorem alloc_f (hk : KeepF w l rows u) {ty : TypeId} {cs : List Value} (hz : (Try.prog.info? ty).bind (·.zero) = some (.agg cs.toArray)) (hgd : o.guard = none) (ho : o.op = .alloc ty)
    (h : ∀ b u', KeepF w ((b, ty, cs) :: l) rows u' → wpList Try.prog ops Q rest (a.put o.dst (.pointer (some ⟨b, 0, none⟩))) u') : wpList Try.prog ops Q (o :: rest) a u :=
  wpList_plain hgd fun K hK => by
    have e : (Instr.alloc ty true (.tuple #[])).run Try.prog u = .ok (.pointer (some ⟨u.heap.size, 0, none⟩)) (u.alloc (.cells cs.toArray ty)) := by
      cases hq : Try.prog.info? ty with
      | none => simp [hq] at hz
      | some i =>
        simp only [hq, Option.bind_some] at hz
        simp [Instr.alloc, zeroValue, typeInfo, hq, hz, newVar, newRow, newObj, Value.cells]
        rfl
    unfold Oper.wp execOp
    simp only [ho, Sem.run_bind, Sem.run_pure, Result.andThen_ok, e]
    exact hK _ _ (h _ _ (hk.new rfl))
/-- The zero value, built. -/
theorem build_f {ty : TypeId} {v : Value} (he : ∀ W, (Instr.build ty #[]).run Try.prog W = .ok v W) (hgd : o.guard = none) (ho : o.op = .build ty #[])
    (h : wpList Try.prog ops Q rest (a.put o.dst v) u) : wpList Try.prog ops Q (o :: rest) a u :=
  wpList_plain hgd fun K hK => by
    unfold Oper.wp execOp
    simp only [ho, List.map_toArray, List.map_nil, Sem.run_bind, Sem.run_pure, Result.andThen_ok, he]
    exact hK _ _ h
/-! ### Loads. -/
theorem run_load_cell {W : World} {ad : Addr} {v : Value} (hc : W.cell? ad = some v) : (Instr.loadAt 9 (.pointer (some ad))).run Try.prog W = .ok v W ∧ (Instr.loadAt 3 (.pointer (some ad))).run Try.prog W = .ok v W ∧ (Instr.loadAt 31 (.pointer (some ad))).run Try.prog W = .ok v W := by
  refine ⟨?_, ?_, ?_⟩ <;> simp [go_sem, hc]
/-- A cell of a kept block is loaded: an int, a text, a slice. -/
def cellB (ty : TypeId) : Bool := ty == 9 || ty == 3 || ty == 31
theorem run_load_f1 {W : World} {ad : Addr} {v : Value} {ty : TypeId} (ht : cellB ty = true) (hc : W.cell? ad = some v) : (Instr.loadAt ty (.pointer (some ad))).run Try.prog W = .ok v W := by
  simp only [cellB, Bool.or_eq_true, beq_iff_eq] at ht
  rcases ht with (rfl | rfl) | rfl
  · exact (run_load_cell hc).1
  · exact (run_load_cell hc).2.1
  · exact (run_load_cell hc).2.2
theorem wp_load_f1 {ty : TypeId} (ht : cellB ty = true) (x : Operand) (ho : o.op = .load ty x) {ad : Addr} {v : Value} (hx : a.eval x = .pointer (some ad)) (hc : u.cell? ad = some v) (h : K (a.put o.dst v) u) : o.wp Try.prog a u K Q := by
  unfold Oper.wp execOp
  simp only [ho, hx, Sem.run_bind, Sem.run_pure, Result.andThen_ok, run_load_f1 ht hc]
  exact h
theorem load_f1 (hk : KeepF w l rows u) (i : Nat) {ty : TypeId} (ht : cellB ty = true) (x : Operand) (ho : o.op = .load ty x) {b off : Nat} {t : TypeId} {cs : List Value} (hi : l[i]? = some (b, t, cs)) (hx : a.eval x = .pointer (some ⟨b, off, none⟩)) (hw : Region.wanted o (yielded ops a.tmps) = true) {v : Value} (hv : cs[off]? = some v)
    (h : wpList Try.prog ops Q rest (a.put o.dst v) u) : wpList Try.prog ops Q (o :: rest) a u :=
  BigFrame.wpList_want hw fun _ hK => wp_load_f1 ht x ho hx ((hk.get i hi).cell hv) (hK _ _ h)
/-- A cell that lay there. -/
theorem load_there {ty : TypeId} (ht : cellB ty = true) (x : Operand) (ho : o.op = .load ty x) {ad : Addr} {v : Value} (hc : u.cell? ad = some v) (hx : a.eval x = .pointer (some ad)) (hw : Region.wanted o (yielded ops a.tmps) = true)
    (h : wpList Try.prog ops Q rest (a.put o.dst v) u) : wpList Try.prog ops Q (o :: rest) a u :=
  BigFrame.wpList_want hw fun _ hK => wp_load_f1 ht x ho hx hc (hK _ _ h)
/-- A part of a kept block is loaded. -/
theorem load_fr (hk : KeepF w l rows u) (i : Nat) {ty : TypeId} {d : TypeDesc} (hu : Try.prog.underlying ty = some d) (hd : d.isRow = true) {xs : List Value} (hs : (Try.prog.info? ty).map (·.size) = some xs.length)
    (x : Operand) (ho : o.op = .load ty x) {b off : Nat} {t : TypeId} {cs : List Value} (hi : l[i]? = some (b, t, cs)) (hx : a.eval x = .pointer (some ⟨b, off, none⟩)) (hw : Region.wanted o (yielded ops a.tmps) = true) (hr : ∀ j v, xs[j]? = some v → cs[off + j]? = some v)
    (h : wpList Try.prog ops Q rest (a.put o.dst (.agg xs.toArray)) u) : wpList Try.prog ops Q (o :: rest) a u :=
  BigFrame.wpList_want hw fun _ hK => wp_load_mid ty x ho b off hx xs d ((hk.get i hi).range hr) hu hd hs (hK _ _ h)
/-! ### Stores. -/
theorem wp_store_fr (hk : KeepF w l rows u) (i : Nat) {ty : TypeId} {xs : List Value} (hs : (Try.prog.info? ty).map (·.size) = some xs.length) (h1 : xs.toArray.all (·.oneCell') = true) (hd : o.dst = none) (x y : Operand) (ho : o.op = .store ty x y)
    {b off : Nat} {t : TypeId} {cs ds : List Value} (hi : l[i]? = some (b, t, cs)) (hx : a.eval x = .pointer (some ⟨b, off, none⟩)) (hy : a.eval y = .agg xs.toArray) (hr : off + xs.length ≤ cs.length) (hds : spl cs off xs = ds)
    (h : ∀ u', KeepF w (l.set i (b, t, ds)) rows u' → (∀ k, k ≠ b → u'.heap[k]? = u.heap[k]?) → K a u') : o.wp Try.prog a u K Q := by
  subst hds
  exact wp_store_mid ty x y ho b off _ hx hy (by simpa using (hk.get i hi).there hr) (by simpa using hs) h1 (by rw [hd]; simpa [Act.put] using h _ (hk.setCells i hi off xs) (setCells_else b xs off u))
theorem store_fr (hk : KeepF w l rows u) (i : Nat) {ty : TypeId} {xs : List Value} (hs : (Try.prog.info? ty).map (·.size) = some xs.length) (h1 : xs.toArray.all (·.oneCell') = true) (hgd : o.guard = none) (hd : o.dst = none) (x y : Operand) (ho : o.op = .store ty x y)
    {b off : Nat} {t : TypeId} {cs ds : List Value} (hi : l[i]? = some (b, t, cs)) (hx : a.eval x = .pointer (some ⟨b, off, none⟩)) (hy : a.eval y = .agg xs.toArray) (hr : off + xs.length ≤ cs.length) (hds : spl cs off xs = ds)
    (h : ∀ u', KeepF w (l.set i (b, t, ds)) rows u' → wpList Try.prog ops Q rest a u') : wpList Try.prog ops Q (o :: rest) a u :=
  wpList_plain hgd fun _ hK => wp_store_fr hk i hs h1 hd x y ho hi hx hy hr hds fun u' h' _ => hK _ _ (h u' h')
/-- An int, a text, a slice. -/
def plainV : Value → Bool
  | .int _ _ => true
  | .string _ => true
  | .slice _ _ _ => true
  | _ => false
theorem run_store_f1 {W : World} {ad : Addr} {v v' : Value} {ty : TypeId} (ht : cellB ty = true) (hc : W.cell? ad = some v') (hf : W.frozen? ad = false) (hv : plainV v = true) : (Instr.storeAt ty (.pointer (some ad)) v).run Try.prog W = .ok () (W.setCell ad v) := by
  simp only [cellB, Bool.or_eq_true, beq_iff_eq] at ht
  cases v <;> simp only [plainV, Bool.false_eq_true] at hv <;> rcases ht with (rfl | rfl) | rfl <;> simp [go_sem, hc, hf]
theorem wp_store_f1 (hk : KeepF w l rows u) (i : Nat) {ty : TypeId} (ht : cellB ty = true) (hd : o.dst = none) (x y : Operand) (ho : o.op = .store ty x y) {b off : Nat} {t : TypeId} {cs ds : List Value} {v : Value} (hi : l[i]? = some (b, t, cs))
    (hx : a.eval x = .pointer (some ⟨b, off, none⟩)) (hy : a.eval y = v) (hv : plainV v = true) (hr : off < cs.length) (hds : cs.set off v = ds)
    (h : ∀ u', KeepF w (l.set i (b, t, ds)) rows u' → (∀ k, k ≠ b → u'.heap[k]? = u.heap[k]?) → K a u') : o.wp Try.prog a u K Q := by
  subst hds
  have e := run_store_f1 (v := v) ht ((hk.get i hi).cell (List.getElem?_eq_getElem hr)) ((hk.get i hi).frozen off) hv
  unfold Oper.wp execOp
  simp only [ho, hx, hy, Sem.run_bind, Sem.run_pure, Result.andThen_ok, e]
  simpa [hd, Act.put, Oper.upon] using h _ (hk.setCell i hi off v) (fun k hk' => heap_setCell_other u ⟨b, off, none⟩ k _ hk')
theorem store_f1 (hk : KeepF w l rows u) (i : Nat) {ty : TypeId} (ht : cellB ty = true) (hgd : o.guard = none) (hd : o.dst = none) (x y : Operand) (ho : o.op = .store ty x y) {b off : Nat} {t : TypeId} {cs ds : List Value} {v : Value} (hi : l[i]? = some (b, t, cs))
    (hx : a.eval x = .pointer (some ⟨b, off, none⟩)) (hy : a.eval y = v) (hv : plainV v = true) (hr : off < cs.length) (hds : cs.set off v = ds)
    (h : ∀ u', KeepF w (l.set i (b, t, ds)) rows u' → wpList Try.prog ops Q rest a u') : wpList Try.prog ops Q (o :: rest) a u :=
  wpList_plain hgd fun _ hK => wp_store_f1 hk i ht hd x y ho hi hx hy hv hr hds fun u' h' _ => hK _ _ (h u' h')
end
end Go.Proofs.Ytofngihdnjgmeaa
