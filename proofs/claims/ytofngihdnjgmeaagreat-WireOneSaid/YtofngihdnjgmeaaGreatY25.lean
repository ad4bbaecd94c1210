/- Contracts of slices.Grow, Concat and Clone of bytes, of octets.Number, Text and New, and of the document's Text.; wire.putting: a carrier that puts each part behind bytes.; Contracts of wire.putting and wire.Encode.; The document's add, vector and rights of layer 10.; The document's Encode (layer 10).; The document's Encode tells what the program's tells (layer 10).; Contracts of a Reader's methods: Err, End, goOn, Number, and of Count and Text where they tell something.; What the statements stand on: texts held against one another, a reader that the call made, and the contract of awake.; What the statements stand on: slices of bytes and of ints that come in, texts, the parts of regions that draw their order. -/
import Derived.Test.YtofngihdnjgmeaaGreatY01
import Derived.Test.YtofngihdnjgmeaaGreatY04
import Derived.Test.YtofngihdnjgmeaaGreatY07
import Derived.Test.YtofngihdnjgmeaaGreatY09
import Derived.Test.YtofngihdnjgmeaaGreatY11
import Derived.Test.YtofngihdnjgmeaaGreatY12
import Derived.Test.YtofngihdnjgmeaaGreatY18
import Derived.Test.YtofngihdnjgmeaaGreatY21
import Derived.Test.YtofngihdnjgmeaaGreatY22A
import Derived.Test.YtofngihdnjgmeaaGreatY27A
import Derived.Test.YtofngihdnjgmeaaGreatY29
import Derived.Below
import Derived.Maps.AppendAt
import Derived.OwnWalk
import Derived.Laws.OwnMore
import Derived.Lib.AppendStr
import Derived.Lib.AppendZeros
import Derived.Laws.IdiomStrings
import Derived.Lib.Hide
import Derived.WalkKit
import Derived.ProofKit
import Derived.Deep.RegionHeld3
import Derived.Deep.MidRow
import Derived.Deep.QuietTactic
import Derived.BigQuiet
import Derived.Laws.StructEq
import Derived.OpenShut
import Derived.ChangeOld
import Derived.Deep.Slices
import Derived.ChangeSlices
import Derived.Laws.AppendOwn
import Derived.WalkMore
import Derived.LoopTactic
import Derived.Defers
import Derived.Recover
import Derived.WalkSmall
import Derived.Deep.OwnRows
import Derived.Lib.SliceRun
import Derived.Shelf.SlSortCmp.WholeK
import Derived.Shelf.SlSortCmp.NoneTotal
import Derived.Laws.Cover3
import Derived.Maps.OwnSet
import Derived.Maps.Views
import Derived.ShutString
namespace Go.Proofs.YtofngihdnjgmeaaGreat.oct
set_option maxRecDepth 100000
open Go.ChangeShapes Go.WideShapes Go.ChangeAt Go.RowKit

theorem slice_high (a : Option Addr) (len cap K : Nat) (h : K ≤ cap) (W : World) : (Instr.slice 36 (.slice a len cap) none (some (.int .i64 (K : Int))) none).run Tryz.prog W = .ok (.slice (if cap = 0 then a else a.map (·.add 0)) K cap) W := by
  obtain ⟨i0, hi0, hz0, hz1, hz2⟩ := info_parts b_info
  simp [Instr.slice, run_underlying Tryz.underlying36, Instr.sliceBounds, Instr.sliceBound, asIntOf, sizeOf, typeInfo, hi0, h]
theorem sgrow_any (n : Nat) (h0 : 0 < n) (hn : n ≤ 1048576) (w : World) :
    Calls Tryz.prog 109 #[.slice none 0 0, .int .i64 (n : Int)] w fun e w' => ∃ v, e = .returned v ∧ KO w v [] w' := by
  obtain ⟨i0, hi0, hz0, hz1, hz2⟩ := info_parts b_info
  have hr := fun ty => Lib.run_append_nil_zeros (P := Tryz.prog) w 36 3 ty 5 i0 (.int .u8 0) .i64 .i64 Tryz.underlying36 Tryz.underlying3 hi0 hz0 n h0 (by omega) (by omega) (by rw [hz2]; omega)
  have hC1 := grownCap_ge w n 0 5
  have hC2 := grownCap_le_maxLen w n 0 5 (by simp only [maxLen]; omega)
  have hZ : (Builtin.zeroCells (Value.int .u8 0).cells n ++ Builtin.zeroCells (Value.int .u8 0).cells (grownCap w n 0 5 - n)).size = grownCap w n 0 5 * 1 := by
    simp [Builtin.zeroCells, Value.cells]; omega
  generalize grownCap w n 0 5 = C at *
  generalize (Builtin.zeroCells (Value.int .u8 0).cells n ++ Builtin.zeroCells (Value.int .u8 0).cells (C - n)) = Z at *
  have hs : ∀ W, (Instr.slice 36 (.slice (some ⟨w.heap.size, 0, none⟩) n C) none (some (.int .i64 0)) none).run Tryz.prog W = .ok (.slice (some ⟨w.heap.size, 0, none⟩) 0 C) W := fun W => by
    have := slice_high (some ⟨w.heap.size, 0, none⟩) n C 0 (by omega) W
    rw [if_neg (by omega)] at this
    simpa [Addr.add] using this
  have hown : Own (w.drew.alloc (.cells Z 5)) w.heap.size (.slice (some ⟨w.heap.size, 0, none⟩) 0 C) [] :=
    ⟨by simp [bys], .inr ⟨w.heap.size, C, Z, rfl, Nat.le_refl _, heap_alloc_new w.drew _, Nat.zero_le _, hC2, hZ, by simp [bys]⟩⟩
  have hbel : Below w.heap.size w (w.drew.alloc (.cells Z 5)) := (Below.refl w.heap.size w).drew.alloc (Nat.le_refl _) _
  have HO := Lib.hid hown; have HB := Lib.hid hbel; have HR := Lib.hid hr; have HZ := Lib.hid hZ
  clear hown hbel hr hZ hC2 hi0 hz0 hz1 hz2
  go_enter Tryz.func109, Tryz.ntmps109
  go_wp2_with (first
    | (refine Lib.wpList_append_run _ rfl _ _ _ _ rfl _ _ rfl rfl _ _ (HR.out _) ?_))
  go_ret
  exact ⟨_, rfl, HB.out, HO.out⟩

/-- Slices of bytes, each with the bytes that it reads, as the cells of a row. -/
abbrev BPart := Option Addr × Nat × List UInt8
def partL (L : List BPart) : List UInt8 := L.flatMap (·.2.2)
def PartsAt (w : World) (b : Nat) (L : List BPart) : Prop := ∀ i x, L[i]? = some x → w.cell? ⟨b, i, none⟩ = some (.slice x.1 x.2.2.length x.2.1) ∧ Bys w x.1 x.2.2
theorem partL_take {L : List BPart} {k : Nat} {x : BPart} (h : L[k]? = some x) : partL (L.take (k + 1)) = partL (L.take k) ++ x.2.2 := by
  simp [partL, List.take_add_one, h]
theorem partL_le {L : List BPart} (k : Nat) : (partL (L.take k)).length ≤ (partL L).length := by
  conv => rhs; rw [← List.take_append_drop k L]
  simp only [partL, List.flatMap_append, List.length_append]; omega
theorem concat_any (b cap : Nat) (L : List BPart) (hN : 0 < (partL L).length) (hN2 : (partL L).length ≤ 100000) (hm : L.length ≤ 1000) (w : World) (hp : PartsAt w b L) :
    Calls Tryz.prog 60 #[.slice (some ⟨b, 0, none⟩) L.length cap] w fun e w' => ∃ A c, (e = .returned (.slice A (partL L).length c) ∧ (partL L).length ≤ c) ∧ KO w (.slice A (partL L).length c) (partL L) w' := by
  have HP := Lib.hid hp; clear hp
  generalize hm' : L.length = m at hm
  have HL := Lib.hid hm'; clear hm'
  have HT := Lib.hid (fun k : Nat => partL_le (L := L) k)
  go_enter Tryz.func60, Tryz.ntmps60
  go_wp2
  go_loop [3, 11] (fun s i => ∃ k : Nat, k ≤ m ∧ i = .int .i64 k ∧ s = .int .i64 ((partL (L.take k)).length : Int)) (fun _ i => m - (intOf i).toNat)
  case atStart => exact ⟨0, by omega, rfl, by simp [partL]⟩
  case round =>
    obtain ⟨k, hk, rfl, rfl⟩ := hrel
    by_cases hlt : k < m
    · obtain ⟨x, hx⟩ : ∃ x, L[k]? = some x := ⟨_, List.getElem?_eq_getElem (by have := HL.out; omega)⟩
      obtain ⟨A, c, zs⟩ := x
      have hcell : w.cell? ⟨b, k, none⟩ = some (.slice A zs.length c) := (HP.out k _ hx).1
      have hs : (partL (L.take (k + 1))).length = (partL (L.take k)).length + zs.length := by rw [partL_take hx, List.length_append]
      have hle := HT.out (k + 1)
      have HS := Lib.hid hs
      rw [hs] at hle
      clear hx hs
      generalize (partL (L.take k)).length = S at *
      generalize zs.length = q at *
      have i1 : (0 : Int) ≤ (k : Int) := by omega
      have i2 : (k : Int) < (m : Int) := by omega
      go_wp2
      go_round
      case rel => exact ⟨k + 1, by omega, by go_num, by rw [HS.out]; go_num⟩
      case measure => simp [intOf]; omega
    · obtain rfl : k = m := by omega
      rw [show L.take k = L by rw [← HL.out]; exact List.take_length]
      have HK := Lib.hid True.intro
      go_wp2_with (first
        | (go_at_call 109; (with_reducible refine (sgrow_any (partL L).length hN (by omega) _).mono ?_); rintro e u ⟨v0, rfl, hk⟩; clear HK; have HK := Lib.hid hk; clear hk))
      go_loopw [6, 27] (fun v i wr => ∃ j : Nat, j ≤ k ∧ i = .int .i64 j ∧ KO w v (partL (L.take j)) wr) (fun _ i _ => k - (intOf i).toNat)
      case atStart => exact ⟨0, by omega, rfl, by simpa [partL] using HK.out⟩
      case round =>
        obtain ⟨j, hj, rfl, hk⟩ := hrel
        clear HK
        have HK := Lib.hid hk
        clear hk
        by_cases hlt : j < k
        · obtain ⟨x, hx⟩ : ∃ x, L[j]? = some x := ⟨_, List.getElem?_eq_getElem (by have := HL.out; omega)⟩
          obtain ⟨A, c, zs⟩ := x
          obtain ⟨h1, h2⟩ := HP.out j _ hx
          have hcell : wr.cell? ⟨b, j, none⟩ = some (.slice A zs.length c) := by rw [HK.out.bel.cell (cell_lt h1)]; exact h1
          have HR := Lib.hid (h2.below HK.out.bel)
          have hq : partL (L.take (j + 1)) = partL (L.take j) ++ zs := partL_take hx
          have HQ := Lib.hid hq
          have HLE := Lib.hid (show (partL (L.take j)).length + zs.length ≤ 1048576 by have h5 := HT.out (j + 1); rw [hq, List.length_append] at h5; omega)
          clear hx hq h1 h2
          have i1 : (0 : Int) ≤ (j : Int) := by omega
          have i2 : (j : Int) < (k : Int) := by omega
          go_wp2_with (first
            | (refine app_more HK.out HR.out rfl rfl _ _ rfl rfl rfl HLE.out ?_; intro v' w' hk; clear HK; have HK := Lib.hid hk; clear hk))
          go_roundw
          case rel => exact ⟨j + 1, by omega, by go_num, by rw [HQ.out]; exact HK.out⟩
          case measure => simp [intOf]; omega
        · obtain rfl : j = k := by omega
          have hk := HK.out
          rw [show L.take j = L by rw [← HL.out]; exact List.take_length] at hk
          clear HK
          have HK := Lib.hid hk; clear hk
          go_wp2
          go_ret
          exact HK.out.out
end Go.Proofs.YtofngihdnjgmeaaGreat.oct

namespace Go.Proofs.YtofngihdnjgmeaaGreat
set_option maxRecDepth 100000
open Go.ChangeShapes Go.WideShapes Go.ChangeAt Go.RowKit

def gP (s : List UInt8) (z : Int) : List UInt8 × Int := (s ++ oct.enc (oct.fold z), z)
def txP (s : List UInt8) (nm : ByteArray) : List UInt8 × ByteArray := (s ++ oct.enc (oct.fold nm.size) ++ nm.data.toList, nm)
def ctP' (s : List UInt8) (n : Nat) (R : List Int) : List UInt8 × Nat × List Int := (s ++ oct.enc (oct.fold n), n, R)
/-- No block but that of the bytes' own row turns: what is no row of bytes stays. -/
theorem oct_block {w : World} {base g : Nat} {v : Value} {l : List UInt8} (h : oct.Own w base v l) (hg : v.ownBlock = some g) : ∃ cur, w.heap[g]? = some (.cells cur 5 (0, 0)) := by
  rcases h.2 with ⟨rfl, _⟩ | ⟨g', cap, cur, rfl, _, h2, _⟩
  · simp [Value.ownBlock] at hg
  · simp [Value.ownBlock] at hg
    subst hg
    exact ⟨cur, h2⟩
theorem Cel.grown {w w' : World} {base b : Nat} {v : Value} {l : List UInt8} {t : TypeId} {cs : List Value} (h : Cel w b t cs) (ht : t ≠ 5) (ho : oct.Own w base v l) (hg : w.grownBy w' v.ownBlock) : Cel w' b t cs := by
  refine (hg.block b h.lt (fun e => ?_)).trans h
  obtain ⟨cur, hc⟩ := oct_block ho e.symm
  unfold Cel at h
  rw [hc] at h
  injection h with h
  injection h with _ h2
  exact ht h2.symm
theorem Keeps.grown {w w' : World} {base : Nat} {v : Value} {l : List UInt8} (ho : oct.Own w base v l) (hg : w.grownBy w' v.ownBlock) : Keeps w w' := fun j cs t fr ht hj => by
  refine (hg.block j (Array.getElem?_eq_some_iff.1 hj).1 (fun e => ?_)).trans hj
  obtain ⟨cur, hc⟩ := oct_block ho e.symm
  rw [hc] at hj
  injection hj with hj
  injection hj with _ h2
  rcases ht with rfl | rfl
  · exact absurd h2 (by decide)
  · exact absurd h2 (by decide)
theorem Keeps.setCell {w : World} {b k : Nat} {t : TypeId} {cs : List Value} {v : Value} (hc : Cel w b t cs) (h1 : t ≠ 69) (h2 : t ≠ 111) : Keeps w (w.setCell ⟨b, k, none⟩ v) := fun j ds t' fr ht hj => by
  rw [heap_setCell_other w ⟨b, k, none⟩ j v (fun e => ?_)]
  · exact hj
  · have e : j = b := e
    subst e
    unfold Cel at hc
    rw [hc] at hj
    injection hj with hj
    injection hj with _ h3
    rcases ht with rfl | rfl
    · exact h1 h3
    · exact h2 h3
theorem Cel.setElse {w : World} {b b' k : Nat} {t t' : TypeId} {cs cs' : List Value} (h : Cel w b t cs) (h' : Cel w b' t' cs') (ht : t ≠ t') (v : Value) : Cel (w.setCell ⟨b', k, none⟩ v) b t cs := by
  refine (heap_setCell_other w ⟨b', k, none⟩ b v (fun e => ?_)).trans h
  have e : b = b' := e
  subst e
  unfold Cel at h h'
  rw [h] at h'
  injection h' with h'
  injection h' with _ h2
  exact ht h2
theorem oct_setElse {w : World} {base b' k : Nat} {x : Value} {l : List UInt8} {t' : TypeId} {cs' : List Value} (h : oct.Own w base x l) (h' : Cel w b' t' cs') (ht : t' ≠ 5) (v : Value) : oct.Own (w.setCell ⟨b', k, none⟩ v) base x l := by
  refine ⟨h.1, ?_⟩
  rcases h.2 with ⟨h1, h2⟩ | ⟨g, cap, cur, h1, h2, h3, h4⟩
  · exact .inl ⟨h1, h2⟩
  · refine .inr ⟨g, cap, cur, h1, h2, ?_, h4⟩
    refine (heap_setCell_other w ⟨b', k, none⟩ g v (fun e => ?_)).trans h3
    have e : g = b' := e
    subst e
    unfold Cel at h'
    rw [h3] at h'
    injection h' with h'
    injection h' with _ h5
    exact ht h5.symm

/-! ### What is kept. -/
/-- The bytes s, behind which parts are put; vb lies in their variable, v is the row. k numbers more may come. -/
structure PK (w0 : World) (bf bb B1 B2 : Nat) (vb v : Value) (k : Nat) (s : List UInt8) (m : Mm) (w : World) : Prop where
  bel : Below w0.heap.size w0 w
  f : Cel w bf 33 m.cells
  b : Cel w bb 36 [vb]
  p1 : Cel w B1 71 [.pointer (some ⟨bb, 0, none⟩)]
  p2 : Cel w B2 110 [.func (.func 62) #[] #[.pointer (some ⟨B1, 0, none⟩)]]
  nb : w0.heap.size ≤ bb
  own : oct.Own w w0.heap.size v s
  xl : m.X.length = 585
  hr : m.R.length = m.n * 5 ∧ m.n ≤ 50 ∧ (0 < m.n → ∃ b off, m.A = some ⟨b, off, none⟩)
  rc : ∀ b off, m.A = some ⟨b, off, none⟩ → ∀ j, j < m.R.length → w0.cell? ⟨b, off + j, none⟩ = some (.int .i64 (m.R.getD j 0))
  room : s.length + 6 * k ≤ 80000
  nm : m.nm.size ≤ 100
def PJ (w0 : World) (bf bb B1 B2 : Nat) (k : Nat) (s : List UInt8) (m : Mm) (w : World) : Prop := ∃ A c, PK w0 bf bb B1 B2 (.slice A s.length c) (.slice A s.length c) k s m w
section
variable {w0 w w' : World} {bf bb B1 B2 k : Nat} {vb v : Value} {s : List UInt8} {m : Mm}
theorem PK.stay (h : PK w0 bf bb B1 B2 vb v k s m w) (hb : Below w.heap.size w w') : PK w0 bf bb B1 B2 vb v k s m w' :=
  ⟨h.bel.trans (hb.mono h.bel.size), h.f.below hb h.f.lt, h.b.below hb h.b.lt, h.p1.below hb h.p1.lt, h.p2.below hb h.p2.lt, h.nb, h.own.below hb, h.xl, h.hr, h.rc, h.room, h.nm⟩
theorem PK.less (h : PK w0 bf bb B1 B2 vb v k s m w) {k' : Nat} (hk : k' ≤ k) : PK w0 bf bb B1 B2 vb v k' s m w :=
  ⟨h.bel, h.f, h.b, h.p1, h.p2, h.nb, h.own, h.xl, h.hr, h.rc, by have := h.room; omega, h.nm⟩
/-- Another row, that a call made. -/
theorem PK.new (h : PK w0 bf bb B1 B2 vb v k s m w) (hb : Below w.heap.size w w') {v' : Value} {s' : List UInt8} {k' : Nat} (ho : oct.Own w' w.heap.size v' s') (hr : s'.length + 6 * k' ≤ 80000) : PK w0 bf bb B1 B2 vb v' k' s' m w' :=
  have h1 := h.stay hb
  ⟨h1.bel, h1.f, h1.b, h1.p1, h1.p2, h1.nb, ho.mono h.bel.size, h1.xl, h1.hr, h1.rc, hr, h1.nm⟩
/-- It is laid into the variable. -/
theorem PK.put (h : PK w0 bf bb B1 B2 vb v k s m w) : PK w0 bf bb B1 B2 v v k s m (w.setCell ⟨bb, 0, none⟩ v) :=
  ⟨h.bel.setCell (p := ⟨bb, 0, none⟩) h.nb v, h.f.setElse h.b (by decide) v, h.b.setCell 0 v, h.p1.setElse h.b (by decide) v, h.p2.setElse h.b (by decide) v, h.nb, oct_setElse h.own h.b (by decide) v, h.xl, h.hr, h.rc, h.room, h.nm⟩
theorem PK.done (h : PK w0 bf bb B1 B2 v v k s m w) : PJ w0 bf bb B1 B2 k s m w := by
  obtain ⟨A, c, rfl, _⟩ := h.own.slice
  exact ⟨A, c, h⟩
theorem PJ.stay (h : PJ w0 bf bb B1 B2 k s m w) (hb : Below w.heap.size w w') : PJ w0 bf bb B1 B2 k s m w' := by
  obtain ⟨A, c, h⟩ := h
  exact ⟨A, c, h.stay hb⟩
end
section
variable {ops : Array Oper} {rest : List Oper} {o : Oper} {a : Act} {u : World} {K : Act → World → Prop} {Q : Exit → Act → World → Prop}
theorem wp_app_b {base : Nat} {v : Value} {l : List UInt8} (hown : oct.Own u base v l) (hbase : base ≤ u.heap.size) {A : Option Addr} {m : List UInt8} (hr : oct.Bys u A m) (s x : Operand)
    (ho : o.op = .call { callee := .builtin .append, args := #[s, x], argTypes := #[36, 36] }) (hs : a.eval s = v) {c : Nat} (hx : a.eval x = .slice A m.length c) (h63 : l.length + m.length ≤ 1048576)
    (h : ∀ v' w', oct.Own w' base v' (l ++ m) → u.grownBy w' v.ownBlock → K (a.put o.dst v') w') : o.wp Tryz.prog a u K Q := by
  obtain ⟨v', w', hrun, h2, h3, _⟩ := oct.append_bys u base o.type v l hown A c m hr h63 hbase
  unfold Oper.wp execOp
  simp only [ho, resolve, invoke, builtin, Sem.run_bind, Sem.run_pure, Result.andThen_ok, List.map_toArray, List.map_cons, List.map_nil, hs, hx, hrun]
  exact h v' w' h2 h3
end
theorem PJ.c2 {w0 w : World} {bf bb B1 B2 k : Nat} {s : List UInt8} {m : Mm} (h : PJ w0 bf bb B1 B2 k s m w) : Cel w B2 110 [.func (.func 62) #[] #[.pointer (some ⟨B1, 0, none⟩)]] := by
  obtain ⟨A, c, h⟩ := h
  exact h.p2
end Go.Proofs.YtofngihdnjgmeaaGreat

namespace Go.Proofs.YtofngihdnjgmeaaGreat
set_option maxRecDepth 100000
open Go.ChangeShapes Go.WideShapes Go.ChangeAt Go.RowKit

section
variable {ops : Array Oper} {rest : List Oper} {o : Oper} {a : Act} {w u : World} {l : List (Nat × TypeId × List Value)} {rows : List (Option Addr × Nat × List Ho)} {Q : Exit → Act → World → Prop}
theorem box_ptr (hk : KeepF w l rows u) {ty : TypeId} (hgd : o.guard = none) (x : Operand) (ho : o.op = .box ty x) {p : Option Addr} (hx : a.eval x = .pointer p)
    (h : ∀ b u', KeepF w ((b, ty, [.pointer p]) :: l) rows u' → wpList Tryz.prog ops Q rest (a.put o.dst (.pointer (some ⟨b, 0, none⟩))) u') : wpList Tryz.prog ops Q (o :: rest) a u :=
  wpList_plain hgd fun K hK => by
    have e : (Instr.box ty (.pointer p)).run Tryz.prog u = .ok (.pointer (some ⟨u.heap.size, 0, none⟩)) (u.alloc (.cells [Value.pointer p].toArray ty)) := by
      simp [Instr.box, newVar, newRow, newObj, Value.cells]
      rfl
    unfold Oper.wp execOp
    simp only [ho, hx, Sem.run_bind, Sem.run_pure, Result.andThen_ok, e]
    exact hK _ _ (h _ _ (hk.new rfl))
end
theorem by_zero : (Tryz.prog.info? 69).bind (·.zero) = some (.agg [Value.nilFunc, .nilFunc, .nilFunc].toArray) := by kernel_rfl
/-! ### wire.Encode. -/
def Pf.X (p : Pf) : List Int := p.k :: p.e :: (p.C ++ p.L.l)
theorem Pf.X_len {p : Pf} (hp : p.full) : p.X.length = 585 := by
  have h : p.C.length = 579 := hp
  simp [Pf.X, h, Lk.len]
def Pf.mm (p : Pf) (A : Option Addr) (c : Nat) : Mm := ⟨p.nm, p.X, A, p.hs.length, c, flat p.hs⟩
theorem Pf.mm_cells (p : Pf) (A : Option Addr) (c : Nat) : (p.mm A c).cells = (p.fd A c).cells := by
  simp [Pf.mm, Mm.cells, Pf.X, Pf.fd, Fd.cells, vals]
def encE (v : Int) (p : Pf) : Int := if dnErr v p = 0 then (if saysB v p = true then 0 else 18) else dnErr v p
def wireB (v : Int) (p : Pf) : List UInt8 := (fE gP txP ctP' v (oct.enc (oct.fold v)) p.nm p.X p.hs.length (flat p.hs)).s
def encB (v : Int) (p : Pf) : List UInt8 := if encE v p = 0 then wireB v p else []
end Go.Proofs.YtofngihdnjgmeaaGreat

namespace Go.Proofs.YtofngihdnjgmeaaGreat
set_option maxRecDepth 100000
open Go.ChangeShapes Go.WideShapes Go.ChangeAt Go.RowKit

/-- The bytes of numbers, one behind the other. -/
def encs (xs : List Int) : List UInt8 := xs.flatMap fun z => oct.enc (oct.fold z)
theorem encs_nil : encs [] = [] := rfl
theorem encs_cons (z : Int) (r : List Int) : encs (z :: r) = oct.enc (oct.fold z) ++ encs r := rfl
theorem encs_append (xs ys : List Int) : encs (xs ++ ys) = encs xs ++ encs ys := by simp [encs]
theorem encs_len : ∀ xs : List Int, (encs xs).length ≤ 6 * xs.length
  | [] => by simp [encs]
  | z :: r => by
    have h1 := encs_len r
    have h2 := oct.enc_six (oct.fold_lt z)
    rw [encs_cons, List.length_append, List.length_cons]
    omega
/-- What is no row of bytes stays, and all that lay below. -/
structure Stays (w0 u u' : World) : Prop where
  bel : Below w0.heap.size u u'
  els : ∀ (j : Nat) (cs : Array Value) (t : TypeId) (fr : Nat × Nat), t ≠ 5 → u.heap[j]? = some (.cells cs t fr) → u'.heap[j]? = some (.cells cs t fr)
section
variable {w0 u u' u2 : World}
theorem Stays.refl (w0 u : World) : Stays w0 u u := ⟨Below.refl _ _, fun _ _ _ _ _ h => h⟩
theorem Stays.trans (h : Stays w0 u u') (k : Stays w0 u' u2) : Stays w0 u u2 := ⟨h.bel.trans k.bel, fun j cs t fr ht hj => k.els j cs t fr ht (h.els j cs t fr ht hj)⟩
theorem Stays.below (hs : w0.heap.size ≤ u.heap.size) (h : Below u.heap.size u u') : Stays w0 u u' := ⟨h.mono hs, fun j _ _ _ _ hj => (h.block j (Array.getElem?_eq_some_iff.1 hj).1).trans hj⟩
theorem Stays.cel (h : Stays w0 u u') {b : Nat} {t : TypeId} {cs : List Value} (ht : t ≠ 5) (hc : Cel u b t cs) : Cel u' b t cs := h.els b _ t _ ht hc
theorem Stays.grown {v : Value} {s : List UInt8} (hs : w0.heap.size ≤ u.heap.size) (ho : oct.Own u w0.heap.size v s) (hg : u.grownBy u' v.ownBlock) : Stays w0 u u' :=
  ⟨(Below.refl _ _).grown hg hs (fun k hk => ho.base k hk), fun j cs t fr ht hj => by
    refine (hg.block j (Array.getElem?_eq_some_iff.1 hj).1 (fun e => ?_)).trans hj
    obtain ⟨cur, hc⟩ := oct_block ho e.symm
    rw [hc] at hj
    injection hj with hj
    injection hj with _ h2
    exact ht h2.symm⟩
theorem Stays.size (h : Stays w0 u u') : u.heap.size ≤ u'.heap.size := h.bel.size
end
theorem yield_pt {ops : Array Oper} {o : Oper} {a : Act} {S : World → Prop} {ty : TypeId} {d : TypeDesc} {b : Nat} {t : TypeId} {cs xs : List Value} (hS : ∀ u, S u → Cel u b t cs) (hu : Tryz.prog.underlying ty = some d) (hd : d.isRow = true) (hs : (Tryz.prog.info? ty).map (·.size) = some xs.length) {off : Nat} (hr : ∀ j v, xs[j]? = some v → cs[off + j]? = some v)
    (x : Operand) (ho : o.op = .load ty x) (hx : a.eval x = .pointer (some ⟨b, off, none⟩)) (hw : Region.wanted o (yielded ops a.tmps) = true) : YieldsIf Tryz.prog ops S o (.agg xs.toArray) a :=
  yieldsIf_load_mid hw ty x ho b off hx xs d (fun u h => (hS u h).range hr) hu hd hs
theorem load_pt {ops : Array Oper} {rest : List Oper} {o : Oper} {a : Act} {u : World} {Q : Exit → Act → World → Prop} {ty : TypeId} {d : TypeDesc} {b : Nat} {t : TypeId} {cs xs : List Value} (hc : Cel u b t cs) (hu : Tryz.prog.underlying ty = some d) (hd : d.isRow = true) (hs : (Tryz.prog.info? ty).map (·.size) = some xs.length) {off : Nat} (hr : ∀ j v, xs[j]? = some v → cs[off + j]? = some v)
    (x : Operand) (ho : o.op = .load ty x) (hx : a.eval x = .pointer (some ⟨b, off, none⟩)) (hw : Region.wanted o (yielded ops a.tmps) = true) (h : wpList Tryz.prog ops Q rest (a.put o.dst (.agg xs.toArray)) u) : wpList Tryz.prog ops Q (o :: rest) a u :=
  BigFrame.wpList_want hw fun _ hK => wp_load_mid ty x ho b off hx xs d (hc.range hr) hu hd hs (hK _ _ h)
end Go.Proofs.YtofngihdnjgmeaaGreat

namespace Go.Proofs.YtofngihdnjgmeaaGreat
set_option maxRecDepth 100000
open Go.ChangeShapes Go.WideShapes Go.ChangeAt Go.RowKit

/-- The bytes by the words. -/
def headR (v : Int) (p : Pf) : List UInt8 := oct.enc (oct.fold v) ++ oct.enc (oct.fold p.k) ++ (oct.enc (oct.fold p.nm.size) ++ p.nm.data.toList)
def wireR (v : Int) (p : Pf) : List UInt8 :=
  let h := if v = 3 then headR v p ++ oct.enc (oct.fold p.e) else headR v p
  if p.k = 2 then h ++ encs p.L.l
  else
    let c := h ++ oct.enc (oct.fold (p.C.getD 0 0)) ++ oct.enc (oct.fold (p.C.getD 1 0)) ++ oct.enc (oct.fold (p.C.getD 2 0)) ++ encs (dnR p.C) ++ encs (upR p.C)
    if 1 < v then c ++ oct.enc (oct.fold p.hs.length) ++ encs (flat p.hs) else c
theorem C_parts {C : List Int} (h : C.length = 579) : C = [C.getD 0 0, C.getD 1 0, C.getD 2 0] ++ (dnR C ++ upR C) := by
  match C, h with
  | a :: b :: c :: r, h =>
    have hr : r.length = 576 := by simpa using h
    simp only [dnR, upR, seg]
    simp
    have : List.take 288 (List.drop 288 r) = List.drop 288 r := List.take_of_length_le (by simp; omega)
    rw [this, List.take_append_drop]
end Go.Proofs.YtofngihdnjgmeaaGreat

namespace Go.Proofs.YtofngihdnjgmeaaGreat
set_option maxRecDepth 100000
open Go.ChangeShapes Go.WideShapes Go.ChangeAt Go.RowKit

theorem run_gP : ∀ (xs : List Int) (s : List UInt8), run gP s xs = (s ++ encs xs, xs)
  | [], s => by simp [run, encs]
  | z :: r, s => by rw [run, run_gP r]; simp [gP, encs_cons, List.append_assoc]
theorem fo_gP (n o : Nat) (s : List UInt8) (X : List Int) (h : o + n ≤ X.length) : fo gP n o (s, X) = (s ++ encs (seg X o n), X) := by
  have e : X.take o ++ (seg X o n ++ X.drop (o + n)) = X := by rw [seg, ← List.drop_drop, List.take_append_drop, List.take_append_drop]
  have l1 : (seg X o n).length = n := seg_length h
  have l2 : (X.take o).length = o := by rw [List.length_take]; omega
  have h1 := fo_run gP (seg X o n) (X.take o) (X.drop (o + n)) s
  rw [run_gP] at h1
  simp only at h1
  rw [l1, l2, e] at h1
  exact h1
theorem encs_C {C : List Int} (h : C.length = 579) : encs C = oct.enc (oct.fold (C.getD 0 0)) ++ (oct.enc (oct.fold (C.getD 1 0)) ++ (oct.enc (oct.fold (C.getD 2 0)) ++ (encs (dnR C) ++ encs (upR C)))) := by
  have e := C_parts h
  have e2 : encs C = encs ([C.getD 0 0, C.getD 1 0, C.getD 2 0] ++ (dnR C ++ upR C)) := congrArg encs e
  rw [e2, encs_append, encs_append, encs_cons, encs_cons, encs_cons, encs_nil]
  simp only [List.append_assoc, List.append_nil]
theorem wire_eq {v : Int} (hv : 1 ≤ v) {p : Pf} (hp : p.full) (hk : p.k = 1 ∨ p.k = 2) : wireB v p = wireR v p := by
  have hX := Pf.X_len hp
  have hC : p.C.length = 579 := hp
  have s0 : seg p.X 0 1 = [p.k] := rfl
  have s1 : seg p.X 1 1 = [p.e] := rfl
  have sC : seg p.X 2 579 = p.C := List.take_left' hC
  have sL : seg p.X 581 4 = p.L.l := by
    have : p.X.drop 581 = p.L.l := List.drop_left' hC
    rw [seg, this]; rfl
  have f1 : ∀ s, fo gP 1 0 (s, p.X) = (s ++ encs [p.k], p.X) := fun s => by rw [fo_gP _ _ _ _ (by omega), s0]
  have f2 : ∀ s, fo gP 1 1 (s, p.X) = (s ++ encs [p.e], p.X) := fun s => by rw [fo_gP _ _ _ _ (by omega), s1]
  have f3 : ∀ s, fo gP 579 2 (s, p.X) = (s ++ encs p.C, p.X) := fun s => by rw [fo_gP _ _ _ _ (by omega), sC]
  have f4 : ∀ s, fo gP 4 581 (s, p.X) = (s ++ encs p.L.l, p.X) := fun s => by rw [fo_gP _ _ _ _ (by omega), sL]
  have f5 : ∀ s, fo gP (5 * p.hs.length) 0 (s, flat p.hs) = (s ++ encs (flat p.hs), flat p.hs) := fun s => by
    have h5 : (flat p.hs).length = 5 * p.hs.length := by rw [flat_length]; omega
    rw [fo_gP _ _ _ _ (by omega), seg_all h5]
  have g0 : p.X.getD 0 0 = p.k := rfl
  have eC := encs_C hC
  unfold wireB fE wireR headR
  have g1 : p.X[0]?.getD 0 = p.k := rfl
  generalize p.X = X at *
  generalize encs p.C = EC at *
  by_cases h3 : v = 3
  · subst h3
    rcases hk with hk | hk
    · simp [f1, txP, f2, g1, hk, f3, ctP', f5, eC, encs_cons, encs_nil]
    · simp [f1, txP, f2, g1, hk, f4, encs_cons, encs_nil]
  · rcases hk with hk | hk
    · by_cases h1 : v = 1
      · subst h1
        simp [f1, txP, g1, hk, f3, eC, encs_cons, encs_nil]
      · have h1' : 1 < v := by omega
        simp [f1, txP, g1, hk, h3, h1, h1', f3, ctP', f5, eC, encs_cons, encs_nil]
    · simp [f1, txP, g1, hk, h3, f4, encs_cons, encs_nil]
theorem says_parts {v : Int} {p : Pf} (h : saysR v p = true) : rightP p = true ∧ verB v = true := by
  simp only [saysR, Bool.and_eq_true] at h
  exact ⟨h.1.1.1, h.1.1.2⟩
theorem kind_of {p : Pf} (h : rightP p = true) : p.k = 1 ∨ p.k = 2 := by
  rcases (right_parts h).2.2 with h | h
  · exact .inl h.1
  · exact .inr h.1
end Go.Proofs.YtofngihdnjgmeaaGreat

namespace Go.Proofs.YtofngihdnjgmeaaGreat.oct
set_option maxRecDepth 100000
open Go.ChangeShapes Go.WideShapes Go.ChangeAt Go.RowKit

/-- All is as it was but for new blocks, and block r. -/
structure Only (r : Nat) (w w' : World) : Prop where
  os : w'.os = w.os
  tape : w'.tape = w.tape
  output : w'.output = w.output
  size : w.heap.size ≤ w'.heap.size
  block : ∀ k, k < w.heap.size → k ≠ r → w'.heap[k]? = w.heap[k]?
theorem Only.refl (r : Nat) (w : World) : Only r w w := ⟨rfl, rfl, rfl, Nat.le_refl _, fun _ _ _ => rfl⟩
theorem Only.trans {r : Nat} {a b c : World} (h : Only r a b) (k : Only r b c) : Only r a c :=
  ⟨k.os.trans h.os, k.tape.trans h.tape, k.output.trans h.output, Nat.le_trans h.size k.size, fun i hi hr => (k.block i (Nat.lt_of_lt_of_le hi h.size) hr).trans (h.block i hi hr)⟩
theorem Only.drew {r : Nat} {a w : World} (h : Only r a w) : Only r a w.drew := ⟨h.os, h.tape, h.output, h.size, h.block⟩
theorem Only.setCell {r : Nat} {a w : World} (h : Only r a w) (i : Nat) (v : Value) : Only r a (w.setCell ⟨r, i, none⟩ v) :=
  h.trans ⟨rfl, rfl, rfl, by simp, fun k _ hk => heap_setCell_other w ⟨r, i, none⟩ k v hk⟩
theorem Only.below {r : Nat} {W w w' : World} (hb : Below W.heap.size W w) (h : Only r w w') (hr : W.heap.size ≤ r) : Below W.heap.size W w' :=
  hb.trans ⟨h.os, h.tape, h.output, h.size, fun k hk => h.block k (Nat.lt_of_lt_of_le hk hb.size) (by omega)⟩
/-- No byte lies in a reader's own block. -/
theorem Rd.noByte {w : World} {r : Nat} {A : Option Addr} {n c : Nat} {e : Int} (h : w.heap[r]? = some (.cells #[.slice A n c, .int .i64 e] 122 (0, 0))) {off : Nat} {z : Int} (hc : w.cell? ⟨r, off, none⟩ = some (.int .u8 z)) : False := by
  rw [cell_of_row w r off _ 122 (0, 0) h] at hc
  match off, hc with
  | 0, hc => simp at hc
  | 1, hc => simp at hc
  | k + 2, hc => simp at hc
theorem Bys.only {w w' : World} {B : Option Addr} {m : List UInt8} (h : Bys w B m) {r : Nat} {l : List UInt8} {e : Int} (hr : Rd w r l e) (ho : Only r w w') : Bys w' B m := by
  obtain ⟨A, c, h1, _, _⟩ := hr
  refine h.keep fun b hl ⟨off, z, hc⟩ => ho.block b hl ?_
  rintro rfl
  exact Rd.noByte h1 hc
theorem Rd.below {w w' : World} {r : Nat} {l : List UInt8} {e : Int} (h : Rd w r l e) (hb : Below w.heap.size w w') : Rd w' r l e := by
  obtain ⟨A, c, h1, h2, h3⟩ := h
  exact ⟨A, c, (hb.block r (Array.getElem?_eq_some_iff.1 h1).1).trans h1, h2, h3.below hb⟩
theorem Rd.lt {w : World} {r : Nat} {l : List UInt8} {e : Int} (h : Rd w r l e) : r < w.heap.size := by
  obtain ⟨A, c, h1, _⟩ := h
  exact (Array.getElem?_eq_some_iff.1 h1).1
end Go.Proofs.YtofngihdnjgmeaaGreat.oct

namespace Go.Proofs.YtofngihdnjgmeaaGreat.oct
set_option maxRecDepth 100000
open Go.ChangeShapes Go.WideShapes Go.ChangeAt Go.RowKit

/-- A reader of the call's own; all else is as it was. -/
structure RS (w0 : World) (r : Nat) (l : List UInt8) (e : Int) (u : World) : Prop where
  bel : Below w0.heap.size w0 u
  far : w0.heap.size ≤ r
  rd : Rd u r l e
theorem RS.made {w0 w u : World} {r : Nat} {l : List UInt8} (hb : Below w0.heap.size w0 w) (hr : w.heap.size ≤ r) (h : Rd u r l 0) (hu : Below w.heap.size w u) : RS w0 r l 0 u := ⟨hb.trans (hu.mono hb.size), Nat.le_trans hb.size hr, h⟩
theorem RS.call {w0 u u' : World} {r : Nat} {l : List UInt8} {e : Int} (h : RS w0 r l e u) (hb : Below u.heap.size u u') : RS w0 r l e u' := ⟨h.bel.trans (hb.mono h.bel.size), h.far, h.rd.below hb⟩
end Go.Proofs.YtofngihdnjgmeaaGreat.oct

namespace Go.Proofs.YtofngihdnjgmeaaGreat.oct
set_option maxRecDepth 100000
open Go.ChangeShapes Go.WideShapes Go.ChangeAt Go.RowKit

/-- A slice of ints that comes in. -/
def Reads (w : World) (A : Option Addr) (n : Nat) (x : List Int) : Prop := x.length = n ∧ n ≤ maxLen ∧ (n = 0 ∨ ∃ b off : Nat, A = some ⟨b, off, none⟩ ∧ ∀ i, i < n → w.cell? ⟨b, off + i, none⟩ = some (.int .i64 (x.getD i 0)))
theorem Reads.below {w w' : World} {A : Option Addr} {n : Nat} {x : List Int} (h : Reads w A n x) (hb : Below w.heap.size w w') : Reads w' A n x := by
  obtain ⟨h1, h2, h3⟩ := h
  refine ⟨h1, h2, h3.imp_right fun ⟨b, off, e, hc⟩ => ⟨b, off, e, fun i hi => ?_⟩⟩
  have := hc i hi
  rw [World.cell?_of_block (w := w) (w' := w') (hb.block b (cell_lt this))]; exact this
section
variable {P : Program} {ops : Array Oper} {Q : Exit → Act → World → Prop} {S S' : World → Prop} {n : Nat}
/-- What is kept may be told more closely from here on. -/
theorem Draws.more (hS : ∀ w, S' w → S w) : ∀ (fuel : Nat) (listed : Array Bool) (a : Act) (w : World), Draws P ops Q S' n fuel listed a w → Draws P ops Q S n fuel listed a w
  | 0, _, _, _, h => h
  | fuel + 1, _, _, _, h => ⟨h.1, fun i hi => wpOp_mono (fun a' w' h' => ⟨fun hn => hS _ (h'.1 hn), Draws.more hS fuel _ a' w' h'.2⟩) (h.2 i hi)⟩
end
theorem yield_gtr {ops : Array Oper} {S : World → Prop} {o : Oper} {a : Act} {p q : Int} {b : Bool} (hb : decide (q < p) = b) (x y : Operand) (t : TypeId) (ho : o.op = .binOp .gtr 3 x y t) (hx : a.eval x = .int .i64 p) (hy : a.eval y = .int .i64 q) (hw : Region.wanted o (yielded ops a.tmps) = true) :
    YieldsIf Tryz.prog ops S o (.bool b) a :=
  .inl ⟨hw, fun w _ => by
    subst hb
    unfold execOp
    simp only [ho, hx, hy]
    simp [go_sem]⟩
theorem Bys.drew {w : World} {A : Option Addr} {l : List UInt8} (h : Bys w A l) : Bys w.drew A l := h.keep fun _ _ _ => rfl
/-- Bytes that are kept, each at its place. -/
structure KB (w0 : World) (L : List (Option Addr × List UInt8)) (u : World) : Prop where
  bel : Below w0.heap.size w0 u
  all : ∀ x ∈ L, Bys u x.1 x.2
theorem KB.call {w0 u u' : World} {L : List (Option Addr × List UInt8)} (h : KB w0 L u) (hb : Below u.heap.size u u') : KB w0 L u' := ⟨h.bel.trans (hb.mono h.bel.size), fun x hx => (h.all x hx).below hb⟩
theorem KB.add {w0 u : World} {L : List (Option Addr × List UInt8)} (h : KB w0 L u) {A : Option Addr} {l : List UInt8} (hy : Bys u A l) : KB w0 ((A, l) :: L) u := ⟨h.bel, fun x hx => by
  rcases List.mem_cons.1 hx with rfl | hx
  · exact hy
  · exact h.all x hx⟩
theorem KB.tail {w0 u : World} {x : Option Addr × List UInt8} {L : List (Option Addr × List UInt8)} (h : KB w0 (x :: L) u) : KB w0 L u := ⟨h.bel, fun y hy => h.all y (List.mem_cons_of_mem _ hy)⟩
theorem KB.get {w0 u : World} {L : List (Option Addr × List UInt8)} (h : KB w0 L u) (i : Nat) {A : Option Addr} {l : List UInt8} (hi : L[i]? = some (A, l)) : Bys u A l := h.all (A, l) (List.mem_of_getElem? hi)
theorem KB.drew {w0 u : World} {L : List (Option Addr × List UInt8)} (h : KB w0 L u) : KB w0 L u.drew := h.call (Below.refl _ _).drew
end Go.Proofs.YtofngihdnjgmeaaGreat.oct
