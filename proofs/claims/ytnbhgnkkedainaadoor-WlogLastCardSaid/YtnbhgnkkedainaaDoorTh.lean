/- What a call keeps: things, each in blocks of its own, and what is only read, apart from them. -/
import Derived.Test.YtnbhgnkkedainaaDoorFb
namespace Go.Proofs.YtnbhgnkkedainaaDoor
open Go.ChangeShapes Go.WideShapes Go.ChangeAt Go.RowKit

/-- All is as it was but for new blocks, and those of F. -/
structure Mf (F : Nat → Prop) (w w' : World) : Prop where
  os : w'.os = w.os
  tape : w'.tape = w.tape
  output : w'.output = w.output
  size : w.heap.size ≤ w'.heap.size
  block : ∀ k, k < w.heap.size → ¬ F k → w'.heap[k]? = w.heap[k]?
theorem Mf.refl (F : Nat → Prop) (w : World) : Mf F w w := ⟨rfl, rfl, rfl, Nat.le_refl _, fun _ _ _ => rfl⟩
theorem Mf.bel {w u : World} (h : Mf (fun _ => False) w u) : Below w.heap.size w u := ⟨h.os, h.tape, h.output, h.size, fun k hk => h.block k hk id⟩
theorem Mf.of {F : Nat → Prop} {w u : World} (h : Below w.heap.size w u) : Mf F w u := ⟨h.os, h.tape, h.output, h.size, fun k hk _ => h.block k hk⟩
/-- A thing in memory: its blocks, and what holds of it as long as they stay. -/
structure Th where
  foot : Nat → Prop
  P : World → Prop
  stay : ∀ {u u' : World}, P u → (∀ k, foot k → u'.heap[k]? = u.heap[k]?) → P u'
  lt : ∀ {u : World} {k : Nat}, P u → foot k → k < u.heap.size
/-- Cells in a block of its own. -/
def Th.cel (b : Nat) (t : TypeId) (cs : List Value) : Th := ⟨fun k => k = b, fun u => Cel u b t cs, fun h hb => (hb b rfl).trans h, fun h hk => by subst hk; exact h.lt⟩
/-- A row of bytes. -/
def Th.row (v : Value) (d : List UInt8) : Th := ⟨fun k => v.ownBlock = some k, fun u => Own u 0 v d, fun h hb => h.else hb, fun h hk => h.lt hk⟩
/-- A disk. -/
def Th.dk (r : Nat) (z f : Int) (v : Value) (d : List UInt8) : Th :=
  ⟨fun k => k = r ∨ v.ownBlock = some k, fun u => Dk u r z v f d, fun h hb => ⟨(hb r (.inl rfl)).trans h.cel, h.own.else fun k hk => hb k (.inr hk)⟩, fun h hk => by
    rcases hk with rfl | hk
    · exact h.cel.lt
    · exact h.own.lt hk⟩
theorem bys_at0 {u : World} {A : Option Addr} {l : List UInt8} (h : Bys u A l) (h0 : l ≠ []) {a : Addr} (ha : A = some a) : a.block < u.heap.size := by
  obtain ⟨b, off, hb, hc⟩ := h.at (List.length_pos_iff.2 h0)
  rw [ha] at hb
  injection hb with hb
  subst hb
  exact cell_lt hc
theorem Bys.stay {u u' : World} {A : Option Addr} {l : List UInt8} (h : Bys u A l) (hb : ∀ a, l ≠ [] → A = some a → u'.heap[a.block]? = u.heap[a.block]?) : Bys u' A l := by
  rcases h with rfl | ⟨b, off, rfl, hc⟩
  · exact .inl rfl
  · by_cases h0 : l = []
    · exact .inl h0
    · exact .inr ⟨b, off, rfl, fun i hi => by rw [World.cell?_of_block (w := u) (w' := u') (a := ⟨b, off + i, none⟩) (hb ⟨b, off, none⟩ h0 rfl)]; exact hc i hi⟩
/-- Bytes that a slice reads. -/
def Th.bys (A : Option Addr) (l : List UInt8) : Th :=
  ⟨fun k => l ≠ [] ∧ ∃ a, A = some a ∧ a.block = k, fun u => Bys u A l, fun h hb => h.stay fun a h0 ha => hb _ ⟨h0, a, ha, rfl⟩, fun h hk => by
    obtain ⟨h0, a, ha, rfl⟩ := hk
    exact bys_at0 h h0 ha⟩
/-- Slices of bytes that a slice reads. -/
def Th.ll (A : Option Addr) (n : Nat) (L : List BPart) : Th :=
  ⟨fun k => (n ≠ 0 ∧ ∃ a, A = some a ∧ a.block = k) ∨ ∃ x ∈ L, x.2.2 ≠ [] ∧ ∃ a, x.1 = some a ∧ a.block = k, fun u => LL u A n L, fun {u u'} h hb => by
    obtain ⟨h1, h2⟩ := h
    refine ⟨h1, ?_⟩
    by_cases hn : n = 0
    · exact .inl hn
    rcases h2 with h2 | ⟨b, off, rfl, h3⟩
    · exact .inl h2
    · refine .inr ⟨b, off, rfl, fun i x hx => ?_⟩
      obtain ⟨h4, h5⟩ := h3 i x hx
      refine ⟨by rw [World.cell?_of_block (w := u) (w' := u') (a := ⟨b, off + i, none⟩) (hb b (.inl ⟨hn, _, rfl, rfl⟩))]; exact h4, h5.stay fun a h0 ha => hb _ (.inr ⟨x, List.mem_of_getElem? hx, h0, a, ha, rfl⟩)⟩, fun {u k} h hk => by
    obtain ⟨h1, h2⟩ := h
    rcases hk with ⟨hn, a, ha, rfl⟩ | ⟨x, hx, h0, a, ha, rfl⟩
    · rcases h2 with h2 | ⟨b, off, rfl, h3⟩
      · exact absurd h2 hn
      · injection ha with ha
        subst ha
        exact cell_lt (h3 0 _ (List.getElem?_eq_getElem (by omega))).1
    · obtain ⟨i, hi⟩ := List.mem_iff_getElem?.1 hx
      rcases h2 with h2 | ⟨b, off, rfl, h3⟩
      · have := (List.getElem?_eq_some_iff.1 hi).1; omega
      · exact bys_at0 (h3 i x hi).2 h0 ha⟩
/-- A log: its own block, its row of records, and each record in a row of its own. -/
structure Lo (u : World) (r rd : Nat) (v : Value) (L : List BPart) : Prop where
  cel : Cel u r 63 [.pointer (some ⟨rd, 0, none⟩), v]
  own : u.ownsRow 0 34 1 v L.length (prts L)
  all : ∀ x ∈ L, Own u 0 (prt x) x.2.2
theorem row_lt {u : World} {v : Value} {n : Nat} {xs : List Value} {t : TypeId} {base : Nat} (h : u.ownsRow base t 1 v n xs) {k : Nat} (hk : v.ownBlock = some k) : k < u.heap.size ∧ base ≤ k := by
  rcases h.2 with ⟨rfl, _⟩ | ⟨g, cap, cur, rfl, h1, h2, _⟩
  · simp [Value.ownBlock] at hk
  · simp [Value.ownBlock] at hk
    subst hk
    exact ⟨(Array.getElem?_eq_some_iff.1 h2).1, h1⟩
theorem row_stay {u u' : World} {v : Value} {n : Nat} {xs : List Value} {t : TypeId} {base : Nat} (h : u.ownsRow base t 1 v n xs) (hb : ∀ k, v.ownBlock = some k → u'.heap[k]? = u.heap[k]?) : u'.ownsRow base t 1 v n xs := by
  refine ⟨h.1, ?_⟩
  rcases h.2 with h1 | ⟨g, cap, cur, rfl, h2, h3, h4⟩
  · exact .inl h1
  · exact .inr ⟨g, cap, cur, rfl, h2, by rw [hb g (by simp [Value.ownBlock])]; exact h3, h4⟩
theorem row_base {u : World} {v : Value} {n : Nat} {xs : List Value} {t : TypeId} {base base' : Nat} (h : u.ownsRow base t 1 v n xs) (hb : ∀ k, v.ownBlock = some k → base' ≤ k) : u.ownsRow base' t 1 v n xs := by
  refine ⟨h.1, ?_⟩
  rcases h.2 with h1 | ⟨g, cap, cur, rfl, h2, h3⟩
  · exact .inl h1
  · exact .inr ⟨g, cap, cur, rfl, hb g (by simp [Value.ownBlock]), h3⟩
def Th.lo (r rd : Nat) (v : Value) (L : List BPart) : Th :=
  ⟨fun k => k = r ∨ v.ownBlock = some k ∨ ∃ x ∈ L, (prt x).ownBlock = some k, fun u => Lo u r rd v L,
   fun h hb => ⟨(hb r (.inl rfl)).trans h.cel, row_stay h.own fun k hk => hb k (.inr (.inl hk)), fun x hx => (h.all x hx).else fun k hk => hb k (.inr (.inr ⟨x, hx, hk⟩))⟩,
   fun h hk => by
    rcases hk with rfl | hk | ⟨x, hx, hk⟩
    · exact h.cel.lt
    · exact (row_lt h.own hk).1
    · exact (h.all x hx).lt hk⟩
/-- What is kept. -/
structure Kg (w : World) (F : Nat → Prop) (own ro : List Th) (u : World) : Prop where
  mf : Mf F w u
  all : ∀ t ∈ own, t.P u
  lone : ∀ (i j : Nat) (x y : Th), own[i]? = some x → own[j]? = some y → i ≠ j → ∀ k, x.foot k → ¬ y.foot k
  cov : ∀ t ∈ own, ∀ k, t.foot k → F k ∨ w.heap.size ≤ k
  look : ∀ t ∈ ro, t.P u
  free : ∀ t ∈ ro, ∀ e ∈ own, ∀ k, t.foot k → ¬ e.foot k
section
variable {w u u' : World} {F : Nat → Prop} {own ro : List Th}
theorem Kg.start (w : World) : Kg w (fun _ => False) [] [] w := ⟨Mf.refl _ _, by simp, by simp, by simp, by simp, by simp⟩
theorem Kg.get (h : Kg w F own ro u) (i : Nat) {t : Th} (hi : own[i]? = some t) : t.P u := h.all _ (List.mem_of_getElem? hi)
theorem Kg.see (h : Kg w F own ro u) (i : Nat) {t : Th} (hi : ro[i]? = some t) : t.P u := h.look _ (List.mem_of_getElem? hi)
theorem Kg.celAt (h : Kg w F own ro u) (i : Nat) {b : Nat} {t : TypeId} {cs : List Value} (hi : own[i]? = some (Th.cel b t cs)) : Cel u b t cs := h.get i hi
theorem Kg.dk (h : Kg w F own ro u) (i : Nat) {r : Nat} {z f : Int} {v : Value} {d : List UInt8} (hi : own[i]? = some (Th.dk r z f v d)) : Dk u r z v f d := h.get i hi
theorem Kg.lo (h : Kg w F own ro u) (i : Nat) {r rd : Nat} {v : Value} {L : List BPart} (hi : own[i]? = some (Th.lo r rd v L)) : Lo u r rd v L := h.get i hi
theorem Kg.rowIn (h : Kg w F own ro u) (i : Nat) {v : Value} {d : List UInt8} (hi : own[i]? = some (Th.row v d)) : Own u 0 v d := h.get i hi
theorem Kg.bys (h : Kg w F own ro u) (i : Nat) {A : Option Addr} {l : List UInt8} (hi : ro[i]? = some (Th.bys A l)) : Bys u A l := h.see i hi
theorem Kg.ll (h : Kg w F own ro u) (i : Nat) {A : Option Addr} {n : Nat} {L : List BPart} (hi : ro[i]? = some (Th.ll A n L)) : LL u A n L := h.see i hi
theorem set_get {own : List Th} {i : Nat} {x' : Th} {j : Nat} {x : Th} (hj : (own.set i x')[j]? = some x) : (j = i ∧ x = x') ∨ (j ≠ i ∧ own[j]? = some x) := by
  rw [List.getElem?_set] at hj
  split at hj
  · rename_i hij
    split at hj
    · injection hj with hj; exact .inl ⟨hij.symm, hj.symm⟩
    · cases hj
  · rename_i hij
    exact .inr ⟨fun q => hij q.symm, hj⟩
/-- Two of them changed (or one, if i and j are one). -/
theorem Kg.move2 (h : Kg w F own ro u) (i j : Nat) {x y x' y' : Th} (hi : own[i]? = some x) (hj : own[j]? = some y) (hij : i ≠ j) (hm : Mf (fun k => x.foot k ∨ y.foot k) u u') (hx : x'.P u') (hy : y'.P u')
    (hxy : ∀ k, x'.foot k → ¬ y'.foot k) (hnx : ∀ k, x'.foot k → (x.foot k ∨ y.foot k) ∨ u.heap.size ≤ k) (hny : ∀ k, y'.foot k → (x.foot k ∨ y.foot k) ∨ u.heap.size ≤ k) : Kg w F ((own.set i x').set j y') ro u' := by
  have hmi := List.mem_of_getElem? hi
  have hmj := List.mem_of_getElem? hj
  have hget : ∀ {a : Nat} {t : Th}, ((own.set i x').set j y')[a]? = some t → (a = j ∧ t = y') ∨ (a = i ∧ t = x') ∨ (a ≠ i ∧ a ≠ j ∧ own[a]? = some t) := by
    intro a t ha
    rcases set_get ha with h1 | ⟨h1, h2⟩
    · exact .inl h1
    · rcases set_get h2 with h3 | ⟨h3, h4⟩
      · exact .inr (.inl h3)
      · exact .inr (.inr ⟨h3, h1, h4⟩)
  have hold : ∀ {a : Nat} {t : Th}, a ≠ i → a ≠ j → own[a]? = some t → t.P u' ∧ ∀ k, t.foot k → ¬ x'.foot k ∧ ¬ y'.foot k := by
    intro a t ha hb ht
    have hp := h.get a ht
    have hd : ∀ k, t.foot k → ¬ (x.foot k ∨ y.foot k) := fun k hk hc => hc.elim (h.lone a i t x ht hi ha k hk) (h.lone a j t y ht hj hb k hk)
    refine ⟨t.stay hp fun k hk => hm.block k (t.lt hp hk) (hd k hk), fun k hk => ⟨fun hc => ?_, fun hc => ?_⟩⟩
    · rcases hnx k hc with h1 | h1
      · exact hd k hk h1
      · have := t.lt hp hk; omega
    · rcases hny k hc with h1 | h1
      · exact hd k hk h1
      · have := t.lt hp hk; omega
  have hcv : ∀ k, x.foot k ∨ y.foot k → F k ∨ w.heap.size ≤ k := fun k hk => hk.elim (h.cov x hmi k) (h.cov y hmj k)
  refine ⟨⟨hm.os.trans h.mf.os, hm.tape.trans h.mf.tape, hm.output.trans h.mf.output, Nat.le_trans h.mf.size hm.size, fun k hk hF => ?_⟩, fun t ht => ?_, ?_, fun t ht k hk => ?_, fun t ht => ?_, fun t ht e he k hk hc => ?_⟩
  · refine (hm.block k (Nat.lt_of_lt_of_le hk h.mf.size) fun hc => ?_).trans (h.mf.block k hk hF)
    rcases hcv k hc with h1 | h1
    · exact hF h1
    · omega
  · obtain ⟨a, ha⟩ := List.mem_iff_getElem?.1 ht
    rcases hget ha with ⟨_, rfl⟩ | ⟨_, rfl⟩ | ⟨h1, h2, h3⟩
    · exact hy
    · exact hx
    · exact (hold h1 h2 h3).1
  · intro a b s t ha hb hab k hs ht
    rcases hget ha with ⟨rfl, rfl⟩ | ⟨rfl, rfl⟩ | ⟨h1, h2, h3⟩ <;> rcases hget hb with ⟨rfl, rfl⟩ | ⟨rfl, rfl⟩ | ⟨h4, h5, h6⟩
    · exact hab rfl
    · exact hxy k ht hs
    · exact ((hold h4 h5 h6).2 k ht).2 hs
    · exact hxy k hs ht
    · exact hab rfl
    · exact ((hold h4 h5 h6).2 k ht).1 hs
    · exact ((hold h1 h2 h3).2 k hs).2 ht
    · exact ((hold h1 h2 h3).2 k hs).1 ht
    · exact h.lone a b s t h3 h6 hab k hs ht
  · have hbig : u.heap.size ≤ k → F k ∨ w.heap.size ≤ k := fun h1 => .inr (Nat.le_trans h.mf.size h1)
    obtain ⟨a, ha⟩ := List.mem_iff_getElem?.1 ht
    rcases hget ha with ⟨_, rfl⟩ | ⟨_, rfl⟩ | ⟨h1, h2, h3⟩
    · exact (hny k hk).elim (hcv k) hbig
    · exact (hnx k hk).elim (hcv k) hbig
    · exact h.cov t (List.mem_of_getElem? h3) k hk
  · have hp := h.look t ht
    exact t.stay hp fun k hk => hm.block k (t.lt hp hk) fun hc => hc.elim (h.free t ht x hmi k hk) (h.free t ht y hmj k hk)
  · have hp := h.look t ht
    have hd : ¬ (x.foot k ∨ y.foot k) := fun hc => hc.elim (h.free t ht x hmi k hk) (h.free t ht y hmj k hk)
    have hl := t.lt hp hk
    obtain ⟨a, ha⟩ := List.mem_iff_getElem?.1 he
    rcases hget ha with ⟨_, rfl⟩ | ⟨_, rfl⟩ | ⟨h1, h2, h3⟩
    · rcases hny k hc with h1 | h1
      · exact hd h1
      · omega
    · rcases hnx k hc with h1 | h1
      · exact hd h1
      · omega
    · exact h.free t ht e (List.mem_of_getElem? h3) k hk hc
/-- One of them changed. -/
theorem Kg.move (h : Kg w F own ro u) (i : Nat) {x x' : Th} (hi : own[i]? = some x) (hm : Mf x.foot u u') (hx : x'.P u') (hnx : ∀ k, x'.foot k → x.foot k ∨ u.heap.size ≤ k) : Kg w F (own.set i x') ro u' := by
  have hmi := List.mem_of_getElem? hi
  have hold : ∀ {a : Nat} {t : Th}, a ≠ i → own[a]? = some t → t.P u' ∧ ∀ k, t.foot k → ¬ x'.foot k := by
    intro a t ha ht
    have hp := h.get a ht
    have hd : ∀ k, t.foot k → ¬ x.foot k := h.lone a i t x ht hi ha
    refine ⟨t.stay hp fun k hk => hm.block k (t.lt hp hk) (hd k hk), fun k hk hc => ?_⟩
    rcases hnx k hc with h1 | h1
    · exact hd k hk h1
    · have := t.lt hp hk; omega
  refine ⟨⟨hm.os.trans h.mf.os, hm.tape.trans h.mf.tape, hm.output.trans h.mf.output, Nat.le_trans h.mf.size hm.size, fun k hk hF => ?_⟩, fun t ht => ?_, ?_, fun t ht k hk => ?_, fun t ht => ?_, fun t ht e he k hk hc => ?_⟩
  · refine (hm.block k (Nat.lt_of_lt_of_le hk h.mf.size) fun hc => ?_).trans (h.mf.block k hk hF)
    rcases h.cov x hmi k hc with h1 | h1
    · exact hF h1
    · omega
  · obtain ⟨a, ha⟩ := List.mem_iff_getElem?.1 ht
    rcases set_get ha with ⟨_, rfl⟩ | ⟨h1, h2⟩
    · exact hx
    · exact (hold h1 h2).1
  · intro a b s t ha hb hab k hs ht
    rcases set_get ha with ⟨rfl, rfl⟩ | ⟨h1, h2⟩ <;> rcases set_get hb with ⟨rfl, rfl⟩ | ⟨h3, h4⟩
    · exact hab rfl
    · exact (hold h3 h4).2 k ht hs
    · exact (hold h1 h2).2 k hs ht
    · exact h.lone a b s t h2 h4 hab k hs ht
  · obtain ⟨a, ha⟩ := List.mem_iff_getElem?.1 ht
    rcases set_get ha with ⟨_, rfl⟩ | ⟨h1, h2⟩
    · exact (hnx k hk).elim (h.cov x hmi k) fun h1 => .inr (Nat.le_trans h.mf.size h1)
    · exact h.cov t (List.mem_of_getElem? h2) k hk
  · have hp := h.look t ht
    exact t.stay hp fun k hk => hm.block k (t.lt hp hk) (h.free t ht x hmi k hk)
  · have hl := t.lt (h.look t ht) hk
    obtain ⟨a, ha⟩ := List.mem_iff_getElem?.1 he
    rcases set_get ha with ⟨_, rfl⟩ | ⟨h1, h2⟩
    · rcases hnx k hc with h1 | h1
      · exact h.free t ht x hmi k hk h1
      · omega
    · exact h.free t ht e (List.mem_of_getElem? h2) k hk hc
/-- Nothing that lay there changed. -/
theorem Kg.call (h : Kg w F own ro u) (hb : Below u.heap.size u u') : Kg w F own ro u' :=
  ⟨⟨hb.os.trans h.mf.os, hb.tape.trans h.mf.tape, hb.output.trans h.mf.output, Nat.le_trans h.mf.size hb.size, fun k hk hF => (hb.block k (Nat.lt_of_lt_of_le hk h.mf.size)).trans (h.mf.block k hk hF)⟩,
   fun t ht => t.stay (h.all t ht) fun k hk => hb.block k (t.lt (h.all t ht) hk), h.lone, h.cov, fun t ht => t.stay (h.look t ht) fun k hk => hb.block k (t.lt (h.look t ht) hk), h.free⟩
theorem Kg.drewN (h : Kg w F own ro u) (q : Nat) : Kg w F own ro (u.drewN q) := h.call (below_dn _ q)
theorem Kg.drew (h : Kg w F own ro u) : Kg w F own ro u.drew := h.call (below_dn _ 1)
/-- A thing more, apart from all. -/
theorem Kg.cons (h : Kg w F own ro u) {t : Th} (ht : t.P u) (hc : ∀ k, t.foot k → F k ∨ w.heap.size ≤ k) (ho : ∀ e ∈ own, ∀ k, t.foot k → ¬ e.foot k) (hr : ∀ r ∈ ro, ∀ k, r.foot k → ¬ t.foot k) : Kg w F (t :: own) ro u := by
  refine ⟨h.mf, fun x hx => ?_, ?_, fun x hx => ?_, h.look, fun r hr' e he => ?_⟩
  · rcases List.mem_cons.1 hx with rfl | hx
    · exact ht
    · exact h.all x hx
  · intro i j x y hi hj hij k hx hy
    match i, j, hi, hj with
    | 0, 0, _, _ => exact absurd rfl hij
    | 0, j + 1, hi, hj =>
      simp only [List.getElem?_cons_zero, Option.some.injEq, List.getElem?_cons_succ] at hi hj
      subst hi
      exact ho y (List.mem_of_getElem? hj) k hx hy
    | i + 1, 0, hi, hj =>
      simp only [List.getElem?_cons_zero, Option.some.injEq, List.getElem?_cons_succ] at hi hj
      subst hj
      exact ho x (List.mem_of_getElem? hi) k hy hx
    | i + 1, j + 1, hi, hj =>
      simp only [List.getElem?_cons_succ] at hi hj
      exact h.lone i j x y hi hj (by omega) k hx hy
  · rcases List.mem_cons.1 hx with rfl | hx
    · exact hc
    · exact h.cov x hx
  · rcases List.mem_cons.1 he with rfl | he
    · exact hr r hr'
    · exact h.free r hr' e he
/-- What a call made, as a thing of one's own. -/
theorem Kg.add (h : Kg w F own ro u) (hb : Below u.heap.size u u') {t : Th} (ht : t.P u') (hn : ∀ k, t.foot k → u.heap.size ≤ k) : Kg w F (t :: own) ro u' :=
  (h.call hb).cons ht (fun k hk => .inr (Nat.le_trans h.mf.size (hn k hk))) (fun e he k hk hc => by have := e.lt (h.all e he) hc; have := hn k hk; omega) (fun r hr k hk hc => by have := r.lt (h.look r hr) hk; have := hn k hc; omega)
/-- One of them was handed to a call, which leaves it and another thing. -/
theorem Kg.opened (h : Kg w F own ro u) (i : Nat) {x x' t : Th} (hi : own[i]? = some x) {ro' : List Th} (h2 : Kg u x.foot [t, x'] ro' u') : Kg w F (t :: own.set i x') ro u' := by
  have hmi := List.mem_of_getElem? hi
  have h3 := h.move i hi h2.mf (h2.get 1 rfl) (h2.cov x' (by simp))
  have hn := h2.cov t (by simp)
  refine h3.cons (h2.get 0 rfl) (fun k hk => ?_) (fun e he k hk hc => ?_) (fun r hr k hk hc => ?_)
  · rcases hn k hk with h1 | h1
    · exact h.cov x hmi k h1
    · exact .inr (Nat.le_trans h.mf.size h1)
  · obtain ⟨a, ha⟩ := List.mem_iff_getElem?.1 he
    rcases set_get ha with ⟨_, rfl⟩ | ⟨h4, h5⟩
    · exact h2.lone 0 1 t e rfl rfl (by omega) k hk hc
    · rcases hn k hk with h1 | h1
      · exact h.lone a i e x h5 hi h4 k hc h1
      · have := e.lt (h.get a h5) hc; omega
  · rcases hn k hc with h1 | h1
    · exact h.free r hr x hmi k hk h1
    · have := r.lt (h.look r hr) hk; omega
/-- A thing more that is only read. -/
theorem Kg.also (h : Kg w F own ro u) {t : Th} (ht : t.P u) (hf : ∀ e ∈ own, ∀ k, t.foot k → ¬ e.foot k) : Kg w F own (t :: ro) u :=
  ⟨h.mf, h.all, h.lone, h.cov, fun x hx => by
    rcases List.mem_cons.1 hx with rfl | hx
    · exact ht
    · exact h.look x hx, fun x hx => by
    rcases List.mem_cons.1 hx with rfl | hx
    · exact hf
    · exact h.free x hx⟩
/-- What a call made, to be read alone. -/
theorem Kg.made (h : Kg w F own ro u) (hb : Below u.heap.size u u') {t : Th} (ht : t.P u') (hn : ∀ k, t.foot k → u.heap.size ≤ k) : Kg w F own (t :: ro) u' :=
  (h.call hb).also ht fun e he k hk hc => by have := e.lt (h.all e he) hc; have := hn k hk; omega
theorem Kg.makes (h : Kg w F own ro u) {A : Option Addr} {n c : Nat} {m : List UInt8} (hk : KO u (.slice A n c) m u') : Kg w F own (Th.bys A m :: ro) u' :=
  h.made hk.bel hk.own.bys fun k hf => by
    obtain ⟨_, a, ha, rfl⟩ := hf
    exact hk.own.base _ (by subst ha; rfl)
theorem ownBlock_at {a : Addr} {n c k : Nat} {A : Option Addr} (ha : A = some a) (hk : a.block = k) : (Value.slice A n c).ownBlock = some k := by subst ha; subst hk; rfl
theorem KL.ll {w0 : World} {A : Option Addr} {n c : Nat} {L : List BPart} (h : KL w0 (.slice A n c) L u) : LL u A n L := by
  have hn : L.length = n := by
    obtain ⟨A', c', e, _⟩ := h.slice
    injection e with _ e _
    exact e.symm
  refine ⟨hn, ?_⟩
  rcases h.own.2 with ⟨h1, h0⟩ | ⟨g, cap, cur, h1, h2, h3, _⟩
  · exact .inl (hn ▸ h0)
  · injection h1 with e1 e2 e3
    subst e1
    refine .inr ⟨g, 0, rfl, fun i x hx => ⟨h.cell hx, (h.all x (List.mem_of_getElem? hx)).bys⟩⟩
theorem KL.fresh {w0 : World} {A : Option Addr} {n c : Nat} {L : List BPart} (h : KL w0 (.slice A n c) L u) {k : Nat} (hk : (Th.ll A n L).foot k) : w0.heap.size ≤ k := by
  rcases hk with ⟨_, a, ha, hk⟩ | ⟨x, hx, _, a, ha, hk⟩
  · exact (row_lt h.own (ownBlock_at ha hk)).2
  · exact (h.all x hx).base k (ownBlock_at ha hk)
theorem Kg.lists (h : Kg w F own ro u) {A : Option Addr} {n c : Nat} {L : List BPart} (hk : KL u (.slice A n c) L u') : Kg w F own (Th.ll A n L :: ro) u' :=
  h.made hk.bel hk.ll fun _ hf => hk.fresh hf
/-- Fewer are looked at. -/
theorem Kg.sub (h : Kg w F own ro u) {ro' : List Th} (hr : ∀ r ∈ ro', r ∈ ro) : Kg w F own ro' u := ⟨h.mf, h.all, h.lone, h.cov, fun r h1 => h.look r (hr r h1), fun r h1 => h.free r (hr r h1)⟩
theorem Kg.tail {x : Th} (h : Kg w F (x :: own) ro u) : Kg w F own ro u :=
  ⟨h.mf, fun y hy => h.all y (List.mem_cons_of_mem _ hy), fun i j x y hi hj hij => h.lone (i + 1) (j + 1) x y (by simpa using hi) (by simpa using hj) (by omega), fun y hy => h.cov y (List.mem_cons_of_mem _ hy), h.look, fun r hr e he => h.free r hr e (List.mem_cons_of_mem _ he)⟩
theorem Kg.bare (h : Kg w F own ro u) : Kg w F [] [] u := ⟨h.mf, by simp, by simp, by simp, by simp, by simp⟩
/-- What lay there when the call began, to be read alone. -/
theorem Kg.old (h : Kg w (fun _ => False) own ro u) {t : Th} (ht : t.P w) : Kg w (fun _ => False) own (t :: ro) u :=
  h.also (t.stay ht fun k hk => h.mf.bel.block k (t.lt ht hk)) fun e he k hk hc => by
    have := t.lt ht hk
    have := (h.cov e he k hc).resolve_left id
    omega
/-- Another order. -/
theorem Kg.swap {x y : Th} (h : Kg w F (x :: y :: own) ro u) : Kg w F (y :: x :: own) ro u := by
  have hxy : ∀ k, y.foot k → ¬ x.foot k := h.lone 1 0 y x rfl rfl (by omega)
  have hmem : ∀ t ∈ x :: own, t ∈ x :: y :: own := fun t ht => (List.mem_cons.1 ht).elim (fun e => e ▸ List.mem_cons_self) fun h1 => List.mem_cons_of_mem _ (List.mem_cons_of_mem _ h1)
  have h2 : Kg w F (x :: own) ro u := ⟨h.mf, fun t ht => h.all t (hmem t ht), ?_, fun t ht => h.cov t (hmem t ht), h.look, fun r hr e he => h.free r hr e (hmem e he)⟩
  · refine h2.cons (h.get 1 rfl) (h.cov y (by simp)) (fun e he => ?_) (fun r hr => h.free r hr y (by simp))
    rcases List.mem_cons.1 he with rfl | he
    · exact hxy
    · obtain ⟨a, ha⟩ := List.mem_iff_getElem?.1 he
      exact h.lone 1 (a + 2) y e rfl (by simpa using ha) (by omega)
  · intro i j s t hi hj hij
    have hsh : ∀ {i : Nat} {s : Th}, (x :: own)[i]? = some s → (x :: y :: own)[if i = 0 then 0 else i + 1]? = some s := by
      intro i s hi
      cases i with
      | zero => simpa using hi
      | succ i => simpa using hi
    exact h.lone _ _ s t (hsh hi) (hsh hj) (by split <;> split <;> omega)
/-- One of them, for a call that is handed it. -/
theorem Kg.pick1 (h : Kg w F own ro u) (i : Nat) {x : Th} (hi : own[i]? = some x) {ro' : List Th} (hr : ∀ r ∈ ro', r ∈ ro) : Kg u x.foot [x] ro' u := by
  refine ⟨Mf.refl _ _, fun t ht => ?_, ?_, fun t ht k hk => ?_, fun r h1 => h.look r (hr r h1), fun r h1 t ht => ?_⟩
  · obtain rfl := List.mem_singleton.1 ht
    exact h.get i hi
  · intro a b s t ha hb hab k hs ht
    match a, b, ha, hb with
    | 0, 0, _, _ => exact hab rfl
    | a + 1, _, ha, _ => simp at ha
    | _, b + 1, _, hb => simp at hb
  · obtain rfl := List.mem_singleton.1 ht
    exact .inl hk
  · obtain rfl := List.mem_singleton.1 ht
    exact h.free r (hr r h1) t (List.mem_of_getElem? hi)
/-- Two of them, for a call that is handed both. -/
theorem Kg.pick2 (h : Kg w F own ro u) (i j : Nat) {x y : Th} (hi : own[i]? = some x) (hj : own[j]? = some y) (hij : i ≠ j) {ro' : List Th} (hr : ∀ r ∈ ro', r ∈ ro) : Kg u (fun k => x.foot k ∨ y.foot k) [x, y] ro' u := by
  have hxy := h.lone i j x y hi hj hij
  refine ⟨Mf.refl _ _, fun t ht => ?_, ?_, fun t ht k hk => ?_, fun r h1 => h.look r (hr r h1), fun r h1 t ht => ?_⟩
  · simp only [List.mem_cons, List.not_mem_nil, or_false] at ht
    rcases ht with rfl | rfl
    · exact h.get i hi
    · exact h.get j hj
  · intro a b s t ha hb hab k hs ht
    match a, b, ha, hb with
    | 0, 0, _, _ => exact hab rfl
    | 0, 1, ha, hb =>
      simp at ha hb; subst ha; subst hb
      exact hxy k hs ht
    | 1, 0, ha, hb =>
      simp at ha hb; subst ha; subst hb
      exact hxy k ht hs
    | 1, 1, _, _ => exact hab rfl
    | a + 2, _, ha, _ => simp at ha
    | _, b + 2, _, hb => simp at hb
  · simp only [List.mem_cons, List.not_mem_nil, or_false] at ht
    rcases ht with rfl | rfl
    · exact .inl (.inl hk)
    · exact .inl (.inr hk)
  · simp only [List.mem_cons, List.not_mem_nil, or_false] at ht
    rcases ht with rfl | rfl
    · exact h.free r (hr r h1) t (List.mem_of_getElem? hi)
    · exact h.free r (hr r h1) t (List.mem_of_getElem? hj)
/-- What such a call leaves. -/
theorem Kg.back2 (h : Kg w F own ro u) (i j : Nat) {x y x' y' : Th} (hi : own[i]? = some x) (hj : own[j]? = some y) (hij : i ≠ j) {ro' : List Th} (h2 : Kg u (fun k => x.foot k ∨ y.foot k) [x', y'] ro' u') : Kg w F ((own.set i x').set j y') ro u' :=
  h.move2 i j hi hj hij h2.mf (h2.get 0 rfl) (h2.get 1 rfl) (h2.lone 0 1 x' y' rfl rfl (by omega)) (h2.cov x' (by simp)) (h2.cov y' (by simp))
/-- A disk was called. -/
theorem Mv.foot {r : Nat} {v v' : Value} (hm : Mv u u' r v v') {z f : Int} {d : List UInt8} : Mf (Th.dk r z f v d).foot u u' :=
  ⟨hm.os, hm.tape, hm.output, hm.size, fun k hk hn => hm.block k hk (fun e => hn (.inl e)) (fun e => hn (.inr e))⟩
theorem Kg.disk (h : Kg w F own ro u) (i : Nat) {r : Nat} {z f f' : Int} {v v' : Value} {d d' : List UInt8} (hi : own[i]? = some (Th.dk r z f v d)) (hm : Mv u u' r v v') (hd : Dk u' r z v' f' d') : Kg w F (own.set i (Th.dk r z f' v' d')) ro u' :=
  h.move i hi hm.foot hd (by
    rintro k (hk | hk)
    · exact .inl (.inl hk)
    · rcases hm.row with h1 | h1
      · exact .inl (.inr (h1 ▸ hk))
      · exact .inr (h1 k hk))
theorem Kg.newDisk (h : Kg w F own ro u) (hb : Below u.heap.size u u') {r : Nat} {z : Int} (hr : u.heap.size ≤ r) (hd : Dk u' r z (.slice none 0 0) 0 []) : Kg w F (Th.dk r z 0 (.slice none 0 0) [] :: own) ro u' :=
  h.add hb hd (by
    rintro k (hk | hk)
    · subst hk; exact hr
    · cases hk)
/-- Cells of a kept block are written. -/
theorem Kg.setCell (h : Kg w F own ro u) (i : Nat) {b : Nat} {t : TypeId} {R : List Value} (hi : own[i]? = some (Th.cel b t R)) (o : Nat) (v : Value) {S : List Value} (hS : R.set o v = S) : Kg w F (own.set i (Th.cel b t S)) ro (u.setCell ⟨b, o, none⟩ v) := by
  subst hS
  exact h.move i hi ⟨rfl, rfl, rfl, by simp, fun k _ hk => heap_setCell_other u ⟨b, o, none⟩ k v (fun e => hk e)⟩ ((h.celAt i hi).setCell o v) (fun k hk => .inl hk)
theorem setCells_meta (b : Nat) : ∀ (vs : List Value) (o : Nat) (u : World), (u.setCells b o vs).os = u.os ∧ (u.setCells b o vs).tape = u.tape ∧ (u.setCells b o vs).output = u.output ∧ (u.setCells b o vs).heap.size = u.heap.size
  | [], _, _ => ⟨rfl, rfl, rfl, rfl⟩
  | v :: vs, o, u => by
    obtain ⟨h1, h2, h3, h4⟩ := setCells_meta b vs (o + 1) (u.setCell ⟨b, o, none⟩ v)
    exact ⟨h1, h2, h3, h4.trans (by simp)⟩
theorem Kg.setCells (h : Kg w F own ro u) (i : Nat) {b : Nat} {t : TypeId} {R : List Value} (hi : own[i]? = some (Th.cel b t R)) (o : Nat) (vs : List Value) {S : List Value} (hS : spl R o vs = S) : Kg w F (own.set i (Th.cel b t S)) ro (u.setCells b o vs) := by
  subst hS
  obtain ⟨h1, h2, h3, h4⟩ := setCells_meta b vs o u
  exact h.move i hi ⟨h1, h2, h3, by rw [h4]; exact Nat.le_refl _, fun k _ hk => setCells_else b vs o u k fun e => hk e⟩ ((h.celAt i hi).setCells vs o) (fun k hk => .inl hk)
theorem Kg.new (h : Kg w F own ro u) {t : TypeId} {cs : List Value} {n : Nat} (hn : n = u.heap.size) : Kg w F (Th.cel n t cs :: own) ro (u.alloc (.cells cs.toArray t)) :=
  h.add (below_new _ _) (by subst hn; exact Cel.new u t cs) (fun k hk => by subst hn; exact Nat.le_of_eq hk.symm)
end
end Go.Proofs.YtnbhgnkkedainaaDoor
