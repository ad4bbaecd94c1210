/- What a call keeps: blocks of any cells of its own, disks and rows of bytes each in blocks of their own, and slices of bytes that lie apart from them. -/
import Derived.Test.YtglhjfcngpednaaDp
namespace Go.Proofs.Ytglhjfcngpednaa
open Go.ChangeShapes Go.WideShapes Go.ChangeAt Go.RowKit

/-- A disk (b: its block), or a row of bytes alone. -/
structure Ent where
  b : Option Nat
  z : Int
  f : Int
  v : Value
  d : List UInt8
structure EntAt (u : World) (e : Ent) : Prop where
  own : Own u 0 e.v e.d
  cell : ∀ r, e.b = some r → Cel u r 48 [.int .i64 e.z, e.v, .int .i64 e.f]
/-- Its blocks. -/
def Ent.holds (e : Ent) (k : Nat) : Prop := e.b = some k ∨ e.v.ownBlock = some k
theorem EntAt.lt {u : World} {e : Ent} (h : EntAt u e) {k : Nat} (hk : e.holds k) : k < u.heap.size := by
  rcases hk with hk | hk
  · exact (h.cell k hk).lt
  · exact h.own.lt hk
theorem EntAt.dk {u : World} {r : Nat} {z f : Int} {v : Value} {d : List UInt8} (h : EntAt u ⟨some r, z, f, v, d⟩) : Dk u r z v f d := ⟨h.cell r rfl, h.own⟩
theorem Dk.ent {u : World} {r : Nat} {z f : Int} {v : Value} {d : List UInt8} (h : Dk u r z v f d) : EntAt u ⟨some r, z, f, v, d⟩ := ⟨h.own, fun _ e => by injection e with e; subst e; exact h.cel⟩
theorem EntAt.below {u u' : World} {e : Ent} (h : EntAt u e) (hb : ∀ k, e.holds k → u'.heap[k]? = u.heap[k]?) : EntAt u' e :=
  ⟨h.own.else fun k hk => hb k (.inr hk), fun r hr => (hb r (.inl hr)).trans (h.cell r hr)⟩
theorem EntAt.noByte {u : World} {e : Ent} (h : EntAt u e) {r off : Nat} {z : Int} (hr : e.b = some r) (hc : u.cell? ⟨r, off, none⟩ = some (.int .u8 z)) : False := by
  obtain ⟨A, c, hv, _⟩ := h.own.slice
  exact (h.cell r hr).noByte (by rw [hv]; rfl) hc
/-- Neither a row of bytes nor a disk. -/
def okT (t : TypeId) : Bool := t != 5 && t != 48
theorem EntAt.cel {u : World} {e : Ent} (h : EntAt u e) {b : Nat} {t : TypeId} {cs : List Value} (hc : Cel u b t cs) (ht : okT t = true) : ¬ e.holds b := by
  simp only [okT, Bool.and_eq_true, bne_iff_ne] at ht
  unfold Cel at hc
  rintro (hb | hb)
  · have := h.cell b hb
    unfold Cel at this
    rw [hc] at this
    injection this with this
    injection this with _ h2
    exact ht.2 h2
  · obtain ⟨cur, h1⟩ := h.own.heap hb
    rw [hc] at h1
    injection h1 with h1
    injection h1 with _ h2
    exact ht.1 h2
/-- All is as it was but for new blocks, and those of F. -/
structure Mf (F : Nat → Prop) (w w' : World) : Prop where
  os : w'.os = w.os
  tape : w'.tape = w.tape
  output : w'.output = w.output
  size : w.heap.size ≤ w'.heap.size
  block : ∀ k, k < w.heap.size → ¬ F k → w'.heap[k]? = w.heap[k]?
theorem Mf.refl (F : Nat → Prop) (w : World) : Mf F w w := ⟨rfl, rfl, rfl, Nat.le_refl _, fun _ _ _ => rfl⟩
theorem Mf.bel {w u : World} (h : Mf (fun _ => False) w u) : Below w.heap.size w u := ⟨h.os, h.tape, h.output, h.size, fun k hk => h.block k hk id⟩
/-- What is kept. -/
structure Kf (w : World) (F : Nat → Prop) (l : List (Nat × TypeId × List Value)) (ds : List Ent) (rows : List (Option Addr × List UInt8)) (u : World) : Prop where
  mf : Mf F w u
  blk : ∀ x ∈ l, w.heap.size ≤ x.1 ∧ Cel u x.1 x.2.1 x.2.2 ∧ okT x.2.1 = true ∧ noU x.2.2 = true
  apart : (l.map Prod.fst).Nodup
  ent : ∀ e ∈ ds, EntAt u e
  lone : ∀ (i j : Nat) (x y : Ent), ds[i]? = some x → ds[j]? = some y → i ≠ j → ∀ k, x.holds k → ¬ y.holds k
  cov : ∀ e ∈ ds, ∀ k, e.holds k → F k ∨ w.heap.size ≤ k
  row : ∀ x ∈ rows, Bys u x.1 x.2
  free : ∀ x ∈ rows, x.2 ≠ [] → ∀ a, x.1 = some a → ∀ e ∈ ds, e.v.ownBlock ≠ some a.block
section
variable {w u u' : World} {F : Nat → Prop} {l : List (Nat × TypeId × List Value)} {ds : List Ent} {rows : List (Option Addr × List UInt8)}
theorem Kf.start (w : World) : Kf w (fun _ => False) [] [] [] w := ⟨Mf.refl _ _, by simp, by simp, by simp, by simp, by simp, by simp, by simp⟩
/-- A disk that is given, and slices apart from its row. -/
theorem Kf.given {r : Nat} {z f : Int} {v : Value} {d : List UInt8} (h : Dk w r z v f d) {rows : List (Option Addr × List UInt8)} (hr : ∀ x ∈ rows, Bys w x.1 x.2 ∧ (x.2 ≠ [] → ∀ a, x.1 = some a → v.ownBlock ≠ some a.block)) :
    Kf w (fun k => k = r ∨ v.ownBlock = some k) [] [⟨some r, z, f, v, d⟩] rows w :=
  ⟨Mf.refl _ _, by simp, by simp, by simpa using h.ent, by
    intro i j x y hi hj hij
    match i, j, hi, hj with
    | 0, 0, _, _ => exact absurd rfl hij
    | 0, j + 1, _, hj => simp at hj
    | i + 1, _, hi, _ => simp at hi, by
    intro e he k hk
    simp only [List.mem_singleton] at he
    subst he
    rcases hk with hk | hk
    · injection hk with hk; exact .inl (.inl hk.symm)
    · exact .inl (.inr hk), fun x hx => (hr x hx).1, fun x hx h0 a ha e he => by
    simp only [List.mem_singleton] at he
    subst he
    exact (hr x hx).2 h0 a ha⟩
theorem Kf.get (h : Kf w F l ds rows u) (i : Nat) {b : Nat} {t : TypeId} {cs : List Value} (hi : l[i]? = some (b, t, cs)) : Cel u b t cs := (h.blk _ (List.mem_of_getElem? hi)).2.1
theorem Kf.rowAt (h : Kf w F l ds rows u) (i : Nat) {A : Option Addr} {m : List UInt8} (hi : rows[i]? = some (A, m)) : Bys u A m := h.row _ (List.mem_of_getElem? hi)
theorem Kf.entAt (h : Kf w F l ds rows u) (i : Nat) {e : Ent} (hi : ds[i]? = some e) : EntAt u e := h.ent _ (List.mem_of_getElem? hi)
theorem Kf.dk (h : Kf w F l ds rows u) (i : Nat) {r : Nat} {z f : Int} {v : Value} {d : List UInt8} (hi : ds[i]? = some ⟨some r, z, f, v, d⟩) : Dk u r z v f d := (h.entAt i hi).dk
theorem rowLt {x : Option Addr × List UInt8} (h : Bys u x.1 x.2) (h0 : x.2 ≠ []) {a : Addr} (ha : x.1 = some a) : a.block < u.heap.size ∧ ∃ z, u.cell? ⟨a.block, a.off, none⟩ = some (.int .u8 z) := by
  have hl : 0 < x.2.length := List.length_pos_iff.2 h0
  obtain ⟨b, off, hb, hc⟩ := h.at hl
  rw [ha] at hb
  injection hb with hb
  subst hb
  exact ⟨cell_lt hc, _, by simpa using hc⟩
/-- The blocks of one of them alone changed. -/
theorem Kf.move (h : Kf w F l ds rows u) (i : Nat) {e e' : Ent} (hi : ds[i]? = some e) (hos : u'.os = u.os) (htp : u'.tape = u.tape) (hou : u'.output = u.output) (hsz : u.heap.size ≤ u'.heap.size)
    (hblk : ∀ k, k < u.heap.size → ¬ e.holds k → u'.heap[k]? = u.heap[k]?) (he' : EntAt u' e') (hnew : ∀ k, e'.holds k → e.holds k ∨ u.heap.size ≤ k) : Kf w F l (ds.set i e') rows u' := by
  have hm := List.mem_of_getElem? hi
  have hset : ∀ j x, (ds.set i e')[j]? = some x → (j = i ∧ x = e') ∨ (j ≠ i ∧ ds[j]? = some x) := by
    intro j x hj
    rw [List.getElem?_set] at hj
    split at hj
    · rename_i hij
      split at hj
      · injection hj with hj; exact .inl ⟨hij.symm, hj.symm⟩
      · cases hj
    · rename_i hij
      exact .inr ⟨fun q => hij q.symm, hj⟩
  have hmem : ∀ x ∈ ds.set i e', x = e' ∨ ∃ j, j ≠ i ∧ ds[j]? = some x := by
    intro x hx
    obtain ⟨j, hj⟩ := List.mem_iff_getElem?.1 hx
    rcases hset j x hj with ⟨_, h2⟩ | ⟨h1, h2⟩
    · exact .inl h2
    · exact .inr ⟨j, h1, h2⟩
  refine ⟨⟨hos.trans h.mf.os, htp.trans h.mf.tape, hou.trans h.mf.output, Nat.le_trans h.mf.size hsz, fun k hk hF => ?_⟩, fun x hx => ?_, h.apart, fun x hx => ?_, ?_, fun x hx k hk => ?_, fun x hx => ?_, fun x hx h0 a ha y hy => ?_⟩
  · refine (hblk k (Nat.lt_of_lt_of_le hk h.mf.size) fun hc => ?_).trans (h.mf.block k hk hF)
    rcases h.cov e hm k hc with h1 | h1
    · exact hF h1
    · omega
  · obtain ⟨h1, h2, h3, h4⟩ := h.blk x hx
    exact ⟨h1, (hblk _ h2.lt ((h.ent e hm).cel h2 h3)).trans h2, h3, h4⟩
  · rcases hmem x hx with rfl | ⟨j, hj, hd⟩
    · exact he'
    · have hx' := h.entAt j hd
      exact hx'.below fun k hk => hblk k (EntAt.lt hx' hk) (h.lone j i x e hd hi hj k hk)
  · intro a b x y ha hb hab k hx hy
    rcases hset a x ha with ⟨rfl, rfl⟩ | ⟨h1, h2⟩
    · rcases hset b y hb with ⟨rfl, rfl⟩ | ⟨h3, h4⟩
      · exact hab rfl
      · rcases hnew k hx with h5 | h5
        · exact h.lone _ _ _ _ hi h4 hab k h5 hy
        · have := EntAt.lt (h.entAt b h4) hy; omega
    · rcases hset b y hb with ⟨rfl, rfl⟩ | ⟨h3, h4⟩
      · rcases hnew k hy with h5 | h5
        · exact h.lone _ _ _ _ h2 hi h1 k hx h5
        · have := EntAt.lt (h.entAt a h2) hx; omega
      · exact h.lone _ _ _ _ h2 h4 hab k hx hy
  · rcases hmem x hx with rfl | ⟨j, hj, hd⟩
    · rcases hnew k hk with h1 | h1
      · exact h.cov e hm k h1
      · have := h.mf.size; exact .inr (by omega)
    · exact h.cov x (List.mem_of_getElem? hd) k hk
  · have hb := h.row x hx
    by_cases h0 : x.2 = []
    · exact .inl h0
    · rcases hb with hb | ⟨b, off, hA, hc⟩
      · exact absurd hb h0
      · refine .inr ⟨b, off, hA, fun q hq => ?_⟩
        have h1 := hc q hq
        have h3 : ¬ e.holds b := by
          rintro (h2 | h2)
          · exact (h.ent e hm).noByte h2 h1
          · exact h.free x hx h0 _ hA e hm h2
        rw [World.cell?_of_block (w := u) (w' := u') (hblk b (cell_lt h1) h3)]
        exact h1
  · rcases hmem y hy with rfl | ⟨j, hj, hd⟩
    · intro hc
      obtain ⟨h1, z, h2⟩ := rowLt (h.row x hx) h0 ha
      rcases hnew _ (.inr hc) with h3 | h3
      · rcases h3 with h3 | h3
        · exact (h.ent e hm).noByte h3 h2
        · exact h.free x hx h0 a ha e hm h3
      · omega
    · exact h.free x hx h0 a ha y (List.mem_of_getElem? hd)
/-- A disk was called. -/
theorem Kf.disk (h : Kf w F l ds rows u) (i : Nat) {r : Nat} {z f f' : Int} {v v' : Value} {d d' : List UInt8} (hi : ds[i]? = some ⟨some r, z, f, v, d⟩) (hm : Mv u u' r v v') (hd : Dk u' r z v' f' d') : Kf w F l (ds.set i ⟨some r, z, f', v', d'⟩) rows u' :=
  h.move i hi hm.os hm.tape hm.output hm.size (fun k hk hn => hm.block k hk (fun e => hn (.inl (by rw [e]))) (fun e => hn (.inr e))) hd.ent (by
    rintro k (hk | hk)
    · exact .inl (.inl hk)
    · rcases hm.row with h1 | h1
      · exact .inl (.inr (h1 ▸ hk))
      · exact .inr (h1 k hk))
/-- A row alone has grown. -/
theorem Kf.grew (h : Kf w F l ds rows u) (i : Nat) {z f : Int} {v v' : Value} {d d' : List UInt8} (hi : ds[i]? = some ⟨none, z, f, v, d⟩) (hg : u.grownBy u' v.ownBlock) (hv : v'.ownBlock = v.ownBlock ∨ v'.ownBlock = some u.heap.size) (ho : Own u' 0 v' d') : Kf w F l (ds.set i ⟨none, z, f, v', d'⟩) rows u' :=
  h.move i hi hg.os hg.tape hg.output hg.size (fun k hk hn => hg.block k hk (fun e => hn (.inr e.symm))) ⟨ho, fun r hr => by cases hr⟩ (by
    rintro k (hk | hk)
    · cases hk
    · rcases hv with h1 | h1
      · exact .inl (.inr (h1 ▸ hk))
      · simp only at hk
        rw [h1] at hk
        injection hk with hk
        exact .inr (by omega))
theorem Kf.call (h : Kf w F l ds rows u) (hb : Below u.heap.size u u') : Kf w F l ds rows u' :=
  ⟨⟨hb.os.trans h.mf.os, hb.tape.trans h.mf.tape, hb.output.trans h.mf.output, Nat.le_trans h.mf.size hb.size, fun k hk hF => (hb.block k (Nat.lt_of_lt_of_le hk h.mf.size)).trans (h.mf.block k hk hF)⟩,
   fun x hx => by
    obtain ⟨h1, h2, h3⟩ := h.blk x hx
    exact ⟨h1, h2.below hb h2.lt, h3⟩, h.apart, fun e he => (h.ent e he).below fun k hk => hb.block k (EntAt.lt (h.ent e he) hk), h.lone, h.cov, fun x hx => (h.row x hx).below hb, h.free⟩
theorem Kf.drewN (h : Kf w F l ds rows u) (q : Nat) : Kf w F l ds rows (u.drewN q) := h.call (below_dn _ q)
theorem Kf.drew (h : Kf w F l ds rows u) : Kf w F l ds rows u.drew := h.call (below_dn _ 1)
theorem Kf.cons (h : Kf w F l ds rows u) (hb : Below u.heap.size u u') {b : Nat} {t : TypeId} {cs : List Value} (ht : okT t = true) (hu : noU cs = true) (hn : b = u.heap.size) (hB : Cel u' b t cs) : Kf w F ((b, t, cs) :: l) ds rows u' := by
  have h1 := h.call hb
  refine ⟨h1.mf, fun x hx => ?_, ?_, h1.ent, h1.lone, h1.cov, h1.row, h1.free⟩
  · rcases List.mem_cons.1 hx with rfl | hx
    · exact ⟨hn ▸ h.mf.size, hB, ht, hu⟩
    · exact h1.blk x hx
  · simp only [List.map_cons, List.nodup_cons]
    refine ⟨fun hm => ?_, h.apart⟩
    obtain ⟨x, hx, e⟩ := List.mem_map.1 hm
    have := (h.blk x hx).2.1.lt
    omega
theorem Kf.new (h : Kf w F l ds rows u) {t : TypeId} {cs : List Value} (ht : okT t = true) (hu : noU cs = true) {n : Nat} (hn : n = u.heap.size) : Kf w F ((n, t, cs) :: l) ds rows (u.alloc (.cells cs.toArray t)) :=
  h.cons (below_new _ _) ht hu hn (by rw [hn]; exact Cel.new u t cs)
theorem Kf.tail {x : Nat × TypeId × List Value} (h : Kf w F (x :: l) ds rows u) : Kf w F l ds rows u :=
  ⟨h.mf, fun y hy => h.blk y (List.mem_cons_of_mem _ hy), (List.nodup_cons.1 (by simpa using h.apart)).2, h.ent, h.lone, h.cov, h.row, h.free⟩
/-- No block of cells is looked at any more. -/
theorem Kf.bare (h : Kf w F l ds rows u) : Kf w F [] ds rows u := ⟨h.mf, by simp, by simp, h.ent, h.lone, h.cov, h.row, h.free⟩
/-- Other slices are looked at. -/
theorem Kf.look {rows' : List (Option Addr × List UInt8)} (h : Kf w F l ds rows u) (hr : ∀ r ∈ rows', r ∈ rows) : Kf w F l ds rows' u := ⟨h.mf, h.blk, h.apart, h.ent, h.lone, h.cov, fun r h1 => h.row r (hr r h1), fun r h1 => h.free r (hr r h1)⟩
/-- A slice more. -/
theorem Kf.also (h : Kf w F l ds rows u) {A : Option Addr} {m : List UInt8} (hb : Bys u A m) (hf : m ≠ [] → ∀ a, A = some a → ∀ e ∈ ds, e.v.ownBlock ≠ some a.block) : Kf w F l ds ((A, m) :: rows) u :=
  ⟨h.mf, h.blk, h.apart, h.ent, h.lone, h.cov, fun x hx => by
    rcases List.mem_cons.1 hx with rfl | hx
    · exact hb
    · exact h.row x hx, fun x hx => by
    rcases List.mem_cons.1 hx with rfl | hx
    · exact hf
    · exact h.free x hx⟩
/-- What a call made, as a slice. -/
theorem Kf.makes (h : Kf w F l ds rows u) {A : Option Addr} {n c : Nat} {m : List UInt8} (hk : KO u (.slice A n c) m u') : Kf w F l ds ((A, m) :: rows) u' := by
  refine (h.call hk.bel).also hk.own.bys fun h0 a ha e he hc => ?_
  have h1 : u.heap.size ≤ a.block := hk.own.base _ (by subst ha; rfl)
  have h2 := EntAt.lt (h.ent e he) (.inr hc)
  omega
/-- What a call made, as a row of one's own. -/
theorem Kf.add (h : Kf w F l ds rows u) (hb : Below u.heap.size u u') {e : Ent} (he : EntAt u' e) (hn : ∀ k, e.holds k → u.heap.size ≤ k) : Kf w F l (e :: ds) rows u' := by
  have h1 := h.call hb
  refine ⟨h1.mf, h1.blk, h1.apart, fun x hx => ?_, ?_, fun x hx k hk => ?_, h1.row, fun x hx h0 a ha y hy => ?_⟩
  · rcases List.mem_cons.1 hx with rfl | hx
    · exact he
    · exact h1.ent x hx
  · intro i j x y hi hj hij k hx hy
    match i, j, hi, hj with
    | 0, 0, _, _ => exact absurd rfl hij
    | 0, j + 1, hi, hj =>
      simp only [List.getElem?_cons_zero, Option.some.injEq, List.getElem?_cons_succ] at hi hj
      subst hi
      have := EntAt.lt (h.entAt j hj) hy
      have := hn k hx
      omega
    | i + 1, 0, hi, hj =>
      simp only [List.getElem?_cons_zero, Option.some.injEq, List.getElem?_cons_succ] at hi hj
      subst hj
      have := EntAt.lt (h.entAt i hi) hx
      have := hn k hy
      omega
    | i + 1, j + 1, hi, hj =>
      simp only [List.getElem?_cons_succ] at hi hj
      exact h.lone i j x y hi hj (by omega) k hx hy
  · rcases List.mem_cons.1 hx with rfl | hx
    · have := h.mf.size; have := hn k hk; exact .inr (by omega)
    · exact h1.cov x hx k hk
  · rcases List.mem_cons.1 hy with rfl | hy
    · intro hc
      have := (rowLt (h.row x hx) h0 ha).1
      have := hn _ (.inr hc)
      omega
    · exact h1.free x hx h0 a ha y hy
theorem Kf.made (h : Kf w F l ds rows u) {v : Value} {m : List UInt8} (hk : KO u v m u') : Kf w F l (⟨none, 0, 0, v, m⟩ :: ds) rows u' :=
  h.add hk.bel ⟨hk.own.mono (Nat.zero_le _), fun r hr => by cases hr⟩ (by
    rintro k (hk' | hk')
    · cases hk'
    · exact hk.own.base k hk')
theorem Kf.newDisk (h : Kf w F l ds rows u) (hb : Below u.heap.size u u') {r : Nat} {z : Int} (hr : u.heap.size ≤ r) (hd : Dk u' r z (.slice none 0 0) 0 []) : Kf w F l (⟨some r, z, 0, .slice none 0 0, []⟩ :: ds) rows u' :=
  h.add hb hd.ent (by
    rintro k (hk | hk)
    · injection hk with hk; omega
    · cases hk)
/-- A kept block is written. -/
theorem Kf.put (h : Kf w F l ds rows u) (i : Nat) {b : Nat} {t : TypeId} {R : List Value} (hi : l[i]? = some (b, t, R)) {S : List Value} (hu : noU S = true) (hB : Cel u' b t S) (hos : u'.os = u.os) (htp : u'.tape = u.tape) (hou : u'.output = u.output) (hsz : u'.heap.size = u.heap.size)
    (hb : ∀ (k : Nat), k ≠ b → u'.heap[k]? = u.heap[k]?) : Kf w F (l.set i (b, t, S)) ds rows u' := by
  have hm := List.mem_of_getElem? hi
  obtain ⟨hm1, hm2, hm3, hm4⟩ := h.blk _ hm
  have hfst : (l.set i (b, t, S)).map Prod.fst = l.map Prod.fst := by
    rw [List.map_set]
    apply List.ext_getElem?
    intro j
    rw [List.getElem?_set]
    split
    · rename_i e; subst e
      split
      · simp [hi]
      · rename_i hl; simp only [List.length_map] at hl; have := (List.getElem?_eq_some_iff.1 hi).1; omega
    · rfl
  have hnd : ∀ (j : Nat) (x : Nat × TypeId × List Value), l[j]? = some x → j ≠ i → x.1 ≠ b := by
    intro j x hj hij e
    have hp := List.pairwise_iff_getElem.1 h.apart
    obtain ⟨h1, e1⟩ := List.getElem?_eq_some_iff.1 hj
    obtain ⟨h2, e2⟩ := List.getElem?_eq_some_iff.1 hi
    rcases Nat.lt_trichotomy i j with h3 | h3 | h3
    · refine hp i j (by simpa using h2) (by simpa using h1) h3 ?_
      simp only [List.getElem_map, e1, e2, e]
    · exact hij h3.symm
    · refine hp j i (by simpa using h1) (by simpa using h2) h3 ?_
      simp only [List.getElem_map, e1, e2, e]
  refine ⟨⟨hos.trans h.mf.os, htp.trans h.mf.tape, hou.trans h.mf.output, by rw [hsz]; exact h.mf.size, fun k hk hF => ?_⟩, fun x hx => ?_, by rw [hfst]; exact h.apart, fun e he => ?_, h.lone, h.cov, fun x hx => ?_, h.free⟩
  · have hm1' : w.heap.size ≤ b := hm1
    exact (hb k (by omega)).trans (h.mf.block k hk hF)
  · obtain ⟨j, hj⟩ := List.mem_iff_getElem?.1 hx
    rw [List.getElem?_set] at hj
    by_cases hij : i = j
    · rw [if_pos hij] at hj
      split at hj
      · injection hj with hj; subst hj
        exact ⟨hm1, hB, hm3, hu⟩
      · cases hj
    · rw [if_neg hij] at hj
      obtain ⟨h1, h2, h3⟩ := h.blk x (List.mem_of_getElem? hj)
      exact ⟨h1, (hb x.1 (hnd j x hj (fun e => hij e.symm))).trans h2, h3⟩
  · exact (h.ent e he).below fun k hk => hb k fun e' => (h.ent e he).cel hm2 hm3 (e' ▸ hk)
  · refine (h.row x hx).keep fun k _ ⟨off, z, hc⟩ => hb k fun e => ?_
    subst e
    exact hm2.noByte hm4 hc
theorem setCells_meta (b : Nat) : ∀ (vs : List Value) (o : Nat) (u : World), (u.setCells b o vs).os = u.os ∧ (u.setCells b o vs).tape = u.tape ∧ (u.setCells b o vs).output = u.output ∧ (u.setCells b o vs).heap.size = u.heap.size
  | [], _, _ => ⟨rfl, rfl, rfl, rfl⟩
  | v :: vs, o, u => by
    obtain ⟨h1, h2, h3, h4⟩ := setCells_meta b vs (o + 1) (u.setCell ⟨b, o, none⟩ v)
    exact ⟨h1, h2, h3, h4.trans (by simp)⟩
theorem Kf.setCells (h : Kf w F l ds rows u) (i : Nat) {b : Nat} {t : TypeId} {R : List Value} (hi : l[i]? = some (b, t, R)) (o : Nat) (vs : List Value) {S : List Value} (hS : spl R o vs = S) (hu : noU S = true) : Kf w F (l.set i (b, t, S)) ds rows (u.setCells b o vs) := by
  subst hS
  obtain ⟨h1, h2, h3, h4⟩ := setCells_meta b vs o u
  exact h.put i hi hu ((h.get i hi).setCells vs o) h1 h2 h3 h4 (setCells_else b vs o u)
theorem Kf.setCell (h : Kf w F l ds rows u) (i : Nat) {b : Nat} {t : TypeId} {R : List Value} (hi : l[i]? = some (b, t, R)) (o : Nat) (v : Value) {S : List Value} (hS : R.set o v = S) (hu : noU S = true) : Kf w F (l.set i (b, t, S)) ds rows (u.setCell ⟨b, o, none⟩ v) := by
  subst hS
  exact h.put i hi hu ((h.get i hi).setCell o v) rfl rfl rfl (by simp) (fun k hk => heap_setCell_other u ⟨b, o, none⟩ k v hk)
/-- What a call that was given a disk leaves. -/
theorem Kf.moved {r : Nat} {v v' : Value} {z z' f f' : Int} {d d' : List UInt8} (hd : Dk w r z v f d) (h : Kf w (fun k => k = r ∨ v.ownBlock = some k) l [⟨some r, z', f', v', d'⟩] rows u) : Mv w u r v v' := by
  refine ⟨h.mf.os, h.mf.tape, h.mf.output, h.mf.size, fun k hk h1 h2 => h.mf.block k hk (by
    rintro (h3 | h3)
    · exact h1 h3
    · exact h2 h3), ?_⟩
  by_cases hx : v'.ownBlock = v.ownBlock
  · exact .inl hx
  · right
    intro k hk
    rcases h.cov _ (List.mem_singleton.2 rfl) k (.inr hk) with h1 | h1
    · rcases h1 with rfl | h1
      · exfalso
        have h2 := h.dk 0 rfl
        exact h2.apart hk
      · exact absurd (hk.trans h1.symm) hx
    · exact h1
end
end Go.Proofs.Ytglhjfcngpednaa
