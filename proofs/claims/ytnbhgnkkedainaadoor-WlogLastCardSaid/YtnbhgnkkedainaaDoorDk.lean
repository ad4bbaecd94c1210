/- Blocks of any cells that a call keeps, rows of bytes of its own, and slices of bytes that lie apart from them; a disk in memory. -/
import Derived.Test.YtnbhgnkkedainaaDoorFy
namespace Go.Proofs.YtnbhgnkkedainaaDoor
open Go.ChangeShapes Go.WideShapes Go.ChangeAt Go.RowKit

/-! ### Cells. -/
/-- A block of its own that holds these cells, of some type. -/
def Cel (w : World) (b : Nat) (t : TypeId) (cs : List Value) : Prop := w.heap[b]? = some (.cells cs.toArray t (0, 0))
theorem Cel.lt {w : World} {b : Nat} {t : TypeId} {cs : List Value} (h : Cel w b t cs) : b < w.heap.size := (Array.getElem?_eq_some_iff.1 h).1
theorem Cel.cell {w : World} {b : Nat} {t : TypeId} {cs : List Value} (h : Cel w b t cs) {k : Nat} {v : Value} (hk : cs[k]? = some v) : w.cell? ⟨b, k, none⟩ = some v := by
  rw [cell_of_row w b k _ t (0, 0) h]
  simpa using hk
theorem Cel.range {w : World} {b : Nat} {t : TypeId} {cs : List Value} (h : Cel w b t cs) {o : Nat} {xs : List Value} (hx : ∀ j v, xs[j]? = some v → cs[o + j]? = some v) : w.rangeAt b o xs := fun j v hv => h.cell (hx j v hv)
theorem Cel.frozen {w : World} {b : Nat} {t : TypeId} {cs : List Value} (h : Cel w b t cs) (k : Nat) : w.frozen? ⟨b, k, none⟩ = false := frozen_of_row w b k _ t h
theorem Cel.there {w : World} {b : Nat} {t : TypeId} {cs : List Value} (h : Cel w b t cs) {o n : Nat} (hn : o + n ≤ cs.length) : w.there b o n := fun j hj => by
  refine ⟨?_, h.frozen _⟩
  rw [h.cell (v := cs[o + j]'(by omega)) (List.getElem?_eq_getElem (by omega))]; rfl
theorem Cel.below {w w' : World} {b : Nat} {t : TypeId} {cs : List Value} (h : Cel w b t cs) {B : Nat} (hb : Below B w w') (hl : b < B) : Cel w' b t cs := (hb.block b hl).trans h
theorem Cel.new (w : World) (t : TypeId) (cs : List Value) : Cel (w.alloc (.cells cs.toArray t)) w.heap.size t cs := heap_alloc_new w _
theorem Cel.setCell {w : World} {b : Nat} {t : TypeId} {cs : List Value} (h : Cel w b t cs) (k : Nat) (v : Value) : Cel (w.setCell ⟨b, k, none⟩ v) b t (cs.set k v) := by
  unfold Cel
  rw [heap_setCell_same w b k _ t _ h]
  simp
/-- vs in the place of what lay from o on. -/
def spl (R : List Value) : Nat → List Value → List Value
  | _, [] => R
  | o, v :: vs => spl (R.set o v) (o + 1) vs
theorem spl_mid : ∀ (new old pre post : List Value), old.length = new.length → spl (pre ++ (old ++ post)) pre.length new = pre ++ (new ++ post)
  | [], [], pre, post, _ => by simp [spl]
  | v :: new, x :: old, pre, post, h => by
    have ih := spl_mid new old (pre ++ [v]) post (by simpa using h)
    have e : (pre ++ (x :: old ++ post)).set pre.length v = (pre ++ [v]) ++ (old ++ post) := by
      rw [List.set_append_right _ _ (Nat.le_refl _)]
      simp
    rw [spl, e]
    simpa using ih
theorem spl_all {R S : List Value} (h : R.length = S.length) : spl R 0 S = S := by simpa using spl_mid S R [] [] h
theorem Cel.setCells {b : Nat} {t : TypeId} : ∀ (vs : List Value) {w : World} {cs : List Value} (_ : Cel w b t cs) (o : Nat), Cel (w.setCells b o vs) b t (spl cs o vs)
  | [], _, _, h, _ => h
  | v :: vs, _, _, h, o => Cel.setCells vs (h.setCell o v) (o + 1)
theorem below_cells {B b : Nat} {a : World} (hg : B ≤ b) : ∀ (vs : List Value) {w : World} (_ : Below B a w) (o : Nat), Below B a (w.setCells b o vs)
  | [], _, h, _ => h
  | v :: vs, _, h, o => below_cells hg vs (h.setCell (p := ⟨b, o, none⟩) hg v) (o + 1)
theorem setCells_else (b : Nat) : ∀ (vs : List Value) (o : Nat) (u : World) (k : Nat), k ≠ b → (u.setCells b o vs).heap[k]? = u.heap[k]?
  | [], _, _, _, _ => rfl
  | v :: vs, o, u, k, hk => (setCells_else b vs (o + 1) _ k hk).trans (heap_setCell_other u ⟨b, o, none⟩ k v hk)
/-- No byte stands among the cells. -/
def isU : Value → Bool
  | .int .u8 _ => true
  | _ => false
def noU (cs : List Value) : Bool := cs.all fun v => !isU v
theorem noU_get {cs : List Value} (h : noU cs = true) {k : Nat} {z : Int} (hk : cs[k]? = some (.int .u8 z)) : False := by
  have := List.all_eq_true.1 h _ (List.mem_of_getElem? hk)
  simp [isU] at this
theorem Cel.noByte {w : World} {b : Nat} {t : TypeId} {cs : List Value} (h : Cel w b t cs) (hn : noU cs = true) {off : Nat} {z : Int} (hc : w.cell? ⟨b, off, none⟩ = some (.int .u8 z)) : False := by
  rw [cell_of_row w b off _ t (0, 0) h] at hc
  exact noU_get hn (by simpa using hc)
theorem Own.heap {w : World} {base : Nat} {v : Value} {l : List UInt8} (h : Own w base v l) {g : Nat} (hg : v.ownBlock = some g) : ∃ cur, w.heap[g]? = some (.cells cur 5 (0, 0)) := by
  rcases h.2 with ⟨rfl, _⟩ | ⟨g', cap, cur, rfl, _, h3, _⟩
  · simp [Value.ownBlock] at hg
  · simp [Value.ownBlock] at hg
    subst hg
    exact ⟨cur, h3⟩
theorem Own.lt {w : World} {base : Nat} {v : Value} {l : List UInt8} (h : Own w base v l) {g : Nat} (hg : v.ownBlock = some g) : g < w.heap.size := by
  obtain ⟨cur, h⟩ := h.heap hg
  exact (Array.getElem?_eq_some_iff.1 h).1
theorem Own.rebase {w : World} {base base' : Nat} {v : Value} {l : List UInt8} (h : Own w base v l) (hb : ∀ k, v.ownBlock = some k → base' ≤ k) : Own w base' v l := by
  refine ⟨h.1, ?_⟩
  rcases h.2 with h1 | ⟨g, cap, cur, rfl, h2, h3⟩
  · exact .inl h1
  · exact .inr ⟨g, cap, cur, rfl, hb g (by simp [Value.ownBlock]), h3⟩
/-- Its block was not touched. -/
theorem Own.else {w w' : World} {base : Nat} {v : Value} {l : List UInt8} (h : Own w base v l) (he : ∀ k, v.ownBlock = some k → w'.heap[k]? = w.heap[k]?) : Own w' base v l := by
  refine ⟨h.1, ?_⟩
  rcases h.2 with h1 | ⟨g, cap, cur, rfl, h2, h3, h4⟩
  · exact .inl h1
  · exact .inr ⟨g, cap, cur, rfl, h2, by rw [he g (by simp [Value.ownBlock])]; exact h3, h4⟩
/-- The first ones alone. -/
theorem Own.cut {w : World} {base : Nat} {A : Option Addr} {n c : Nat} {l : List UInt8} (h : Own w base (.slice A n c) l) {k : Nat} (hk : k ≤ l.length) : Own w base (.slice A k c) (l.take k) := by
  have hl : (l.take k).length = k := by simp; omega
  refine ⟨by rw [bys_length, hl, Nat.mul_one], ?_⟩
  rcases h.2 with ⟨h1, h0⟩ | ⟨g, cap, cur, h1, h2, h3, h4, h5, h6, h7⟩
  · injection h1 with e1 e2 e3
    subst e1; subst e3
    left
    rw [hl]
    have : k = 0 := by omega
    exact ⟨by rw [this], this⟩
  · injection h1 with e1 e2 e3
    subst e1; subst e3
    refine .inr ⟨g, c, cur, by rw [hl], h2, h3, by rw [hl]; omega, h5, h6, ?_⟩
    rw [hl, Nat.mul_one]
    rw [Nat.mul_one] at h7
    have : Go.Proofs.YtnbhgnkkedainaaDoor.bys (l.take k) = (Go.Proofs.YtnbhgnkkedainaaDoor.bys l).take k := by simp [Go.Proofs.YtnbhgnkkedainaaDoor.bys]
    rw [this, ← h7, List.take_take, Nat.min_eq_left hk]
theorem ownBlock_cut (A : Option Addr) (n c k : Nat) : (Value.slice A k c).ownBlock = (Value.slice A n c).ownBlock := by cases A <;> rfl

/-! ### A disk. -/
/-- The disk at r: z bytes of room in all, f safe, the bytes d in a row of its own. -/
structure Dk (w : World) (r : Nat) (z : Int) (v : Value) (f : Int) (d : List UInt8) : Prop where
  cel : Cel w r 58 [.int .i64 z, v, .int .i64 f]
  own : Own w 0 v d
/-- All is as it was but for new blocks, the disk's own, and its row. -/
structure Mv (w w' : World) (r : Nat) (v v' : Value) : Prop where
  os : w'.os = w.os
  tape : w'.tape = w.tape
  output : w'.output = w.output
  size : w.heap.size ≤ w'.heap.size
  block : ∀ k, k < w.heap.size → k ≠ r → v.ownBlock ≠ some k → w'.heap[k]? = w.heap[k]?
  row : v'.ownBlock = v.ownBlock ∨ ∀ k, v'.ownBlock = some k → w.heap.size ≤ k
theorem Mv.refl (w : World) (r : Nat) (v : Value) : Mv w w r v v := ⟨rfl, rfl, rfl, Nat.le_refl _, fun _ _ _ _ => rfl, .inl rfl⟩
theorem Mv.below {w w' : World} (r : Nat) (v : Value) (h : Below w.heap.size w w') : Mv w w' r v v := ⟨h.os, h.tape, h.output, h.size, fun k hk _ _ => h.block k hk, .inl rfl⟩
theorem Mv.trans {a b c : World} {r : Nat} {v v' v'' : Value} (h : Mv a b r v v') (k : Mv b c r v' v'') : Mv a c r v v'' := by
  refine ⟨k.os.trans h.os, k.tape.trans h.tape, k.output.trans h.output, Nat.le_trans h.size k.size, fun i hi hr hv => ?_, ?_⟩
  · refine (k.block i (Nat.lt_of_lt_of_le hi h.size) hr fun e => ?_).trans (h.block i hi hr hv)
    rcases h.row with h1 | h1
    · exact hv (h1 ▸ e)
    · have := h1 i e; omega
  · rcases k.row with k1 | k1
    · rcases h.row with h1 | h1
      · exact .inl (k1.trans h1)
      · exact .inr fun i hi => h1 i (k1 ▸ hi)
    · exact .inr fun i hi => Nat.le_trans h.size (k1 i hi)
theorem Mv.set {w : World} {r : Nat} {v : Value} (k : Nat) (x : Value) : Mv w (w.setCell ⟨r, k, none⟩ x) r v v :=
  ⟨rfl, rfl, rfl, by simp, fun i _ hi _ => heap_setCell_other w ⟨r, k, none⟩ i x hi, .inl rfl⟩
/-- Another row is told of. -/
theorem Mv.as {w w' : World} {r : Nat} {v v' v'' : Value} (h : Mv w w' r v v') (e : v''.ownBlock = v'.ownBlock) : Mv w w' r v v'' :=
  ⟨h.os, h.tape, h.output, h.size, h.block, by rw [e]; exact h.row⟩
theorem Mv.grown {w w' : World} {r : Nat} {v v' : Value} (h : w.grownBy w' v.ownBlock) (hv : v'.ownBlock = v.ownBlock ∨ v'.ownBlock = some w.heap.size) : Mv w w' r v v' := by
  refine ⟨h.os, h.tape, h.output, h.size, fun k hk _ hv => h.block k hk (fun e => hv e.symm), ?_⟩
  rcases hv with h1 | h1
  · exact .inl h1
  · exact .inr fun k hk => by rw [h1] at hk; injection hk with hk; omega
theorem Dk.apart {w : World} {r : Nat} {z f : Int} {v : Value} {d : List UInt8} (h : Dk w r z v f d) : v.ownBlock ≠ some r := fun e => by
  obtain ⟨cur, hc⟩ := h.own.heap e
  have := h.cel
  unfold Cel at this
  rw [hc] at this
  injection this with this
  injection this with _ h2
  exact absurd h2 (by decide)
theorem Dk.c0 {w : World} {r : Nat} {z f : Int} {v : Value} {d : List UInt8} (h : Dk w r z v f d) : w.cell? ⟨r, 0, none⟩ = some (.int .i64 z) := h.cel.cell rfl
theorem Dk.c1 {w : World} {r : Nat} {z f : Int} {v : Value} {d : List UInt8} (h : Dk w r z v f d) : w.cell? ⟨r, 1, none⟩ = some v := h.cel.cell rfl
theorem Dk.c2 {w : World} {r : Nat} {z f : Int} {v : Value} {d : List UInt8} (h : Dk w r z v f d) : w.cell? ⟨r, 2, none⟩ = some (.int .i64 f) := h.cel.cell rfl
theorem Dk.below {w w' : World} {r : Nat} {z f : Int} {v : Value} {d : List UInt8} (h : Dk w r z v f d) (hb : Below w.heap.size w w') : Dk w' r z v f d := ⟨h.cel.below hb h.cel.lt, h.own.below hb⟩
theorem Dk.setSafe {w : World} {r : Nat} {z f : Int} {v : Value} {d : List UInt8} (h : Dk w r z v f d) (f' : Int) : Dk (w.setCell ⟨r, 2, none⟩ (.int .i64 f')) r z v f' d :=
  ⟨h.cel.setCell 2 _, h.own.else fun k hk => heap_setCell_other w ⟨r, 2, none⟩ k _ (fun e => h.apart (by simp only at e; rw [← e]; exact hk))⟩
/-- A row of its own in the place of the other one. -/
theorem Dk.setRow {w : World} {r : Nat} {z f : Int} {v : Value} (h : Cel w r 58 [.int .i64 z, v, .int .i64 f]) {v' : Value} {d' : List UInt8} (ho : Own w 0 v' d') : Dk (w.setCell ⟨r, 1, none⟩ v') r z v' f d' :=
  ⟨h.setCell 1 _, ho.else fun k hk => heap_setCell_other w ⟨r, 1, none⟩ k _ fun e => by
    obtain ⟨cur, hc⟩ := ho.heap hk
    simp only at e
    rw [e] at hc
    unfold Cel at h
    rw [hc] at h
    injection h with h
    injection h with _ h2
    exact absurd h2 (by decide)⟩
/-- Bytes apart from the disk's own row stay. -/
theorem Bys.mv {w w' : World} {A : Option Addr} {m : List UInt8} (h : Bys w A m) {r : Nat} {z f : Int} {v v' : Value} {d : List UInt8} (hd : Dk w r z v f d) (hm : Mv w w' r v v') (ha : m ≠ [] → ∀ a, A = some a → v.ownBlock ≠ some a.block) : Bys w' A m := by
  rcases h with rfl | ⟨b, off, rfl, hc⟩
  · exact .inl rfl
  · by_cases h0 : m = []
    · exact .inl h0
    · obtain ⟨A', c', hv, _⟩ := hd.own.slice
      have hn : noU [.int .i64 z, v, .int .i64 f] = true := by rw [hv]; rfl
      refine .inr ⟨b, off, rfl, fun i hi => ?_⟩
      have h1 := hc i hi
      rw [World.cell?_of_block (w := w) (w' := w') (hm.block b (cell_lt h1) (fun e => hd.cel.noByte hn (e ▸ h1)) (ha h0 _ rfl))]
      exact h1
end Go.Proofs.YtnbhgnkkedainaaDoor
