/- Rows of bytes of the call's own; slices.Grow, slices.Concat and bytes.Clone of bytes. -/
import Derived.Test.YtnbhgnkkedainaaDoorOm
import Derived.Laws.Cover3
namespace Go.Proofs.YtnbhgnkkedainaaDoor
open Go.ChangeShapes Go.WideShapes Go.ChangeAt Go.RowKit

/-- All is as it was; v is a row of the call's own that holds the bytes l. -/
structure KO (w0 : World) (v : Value) (l : List UInt8) (w : World) : Prop where
  bel : Below w0.heap.size w0 w
  own : Own w w0.heap.size v l
theorem KO.start (w : World) : KO w (.slice none 0 0) [] w := ⟨Below.refl _ _, Own.nil _ _⟩
theorem KO.call {w0 w w' : World} {v : Value} {l : List UInt8} (h : KO w0 v l w) (hb : Below w.heap.size w w') : KO w0 v l w' := ⟨h.bel.trans (hb.mono h.bel.size), h.own.below hb⟩
theorem below_new (w : World) (o : Obj) : Below w.heap.size w (w.alloc o) := (Below.refl _ _).alloc (Nat.le_refl _) _
/-- append(v, x): the one byte lies in a row of its own. -/
theorem app_one {w0 w : World} {ops : Array Oper} {rest : List Oper} {o : Oper} {a : Act} {Q : Exit → Act → World → Prop} {v : Value} {l : List UInt8} (hk : KO w0 v l w) {z : Int} (ch : UInt8) (hz : z = (ch.toNat : Int)) (hgd : o.guard = none) (s x : Operand)
    (ho : o.op = .call { callee := .builtin .append, args := #[s, x], argTypes := #[34, 34] }) (hs : a.eval s = v) (hx : a.eval x = .slice (some ⟨w.heap.size, 0, none⟩) 1 1) (h63 : l.length ≤ 1048000)
    (h : ∀ v' w', KO w0 v' (l ++ [ch]) w' → wpList Tryd.prog ops Q rest (a.put o.dst v') w') : wpList Tryd.prog ops Q (o :: rest) a (w.alloc (.cells #[.int .u8 z] 5)) := by
  have h1 := hk.call (below_new w (.cells #[.int .u8 z] 5))
  exact app_bys h1.own h1.bel.size (bys_new w z ch hz) rfl hgd s x ho hs hx (by simp; omega) fun v' w' h2 h3 => h v' w' ⟨h1.bel.grown h3 h1.bel.size h1.own.base, h2⟩
theorem app_more {w0 w : World} {ops : Array Oper} {rest : List Oper} {o : Oper} {a : Act} {Q : Exit → Act → World → Prop} {v : Value} {l : List UInt8} (hk : KO w0 v l w) {A : Option Addr} {m : List UInt8} (hr : Bys w A m) {k : Nat} (hm : m.length = k) (hgd : o.guard = none) (s x : Operand)
    (ho : o.op = .call { callee := .builtin .append, args := #[s, x], argTypes := #[34, 34] }) (hs : a.eval s = v) {c : Nat} (hx : a.eval x = .slice A k c) (h63 : l.length + m.length ≤ 1048576)
    (h : ∀ v' w', KO w0 v' (l ++ m) w' → wpList Tryd.prog ops Q rest (a.put o.dst v') w') : wpList Tryd.prog ops Q (o :: rest) a w :=
  app_bys hk.own hk.bel.size hr hm hgd s x ho hs hx h63 fun v' w' h2 h3 => h v' w' ⟨hk.bel.grown h3 hk.bel.size hk.own.base, h2⟩
theorem app_text {w0 w : World} {ops : Array Oper} {rest : List Oper} {o : Oper} {a : Act} {Q : Exit → Act → World → Prop} {v : Value} {l : List UInt8} (hk : KO w0 v l w) (s : ByteArray) (hgd : o.guard = none) (y x : Operand)
    (ho : o.op = .call { callee := .builtin .append, args := #[y, x], argTypes := #[34, 9] }) (hs : a.eval y = v) (hx : a.eval x = .string s) (h63 : l.length + s.size ≤ 1048576)
    (h : ∀ v' w', KO w0 v' (l ++ s.data.toList) w' → wpList Tryd.prog ops Q rest (a.put o.dst v') w') : wpList Tryd.prog ops Q (o :: rest) a w :=
  app_str hk.own hk.bel.size s hgd y x ho hs hx h63 fun v' w' h2 h3 => h v' w' ⟨hk.bel.grown h3 hk.bel.size hk.own.base, h2⟩
/-- The contract's end: a slice that holds the bytes. -/
theorem KO.out {w0 w : World} {v : Value} {l : List UInt8} (h : KO w0 v l w) : ∃ A c, (Ending.returned v = .returned (.slice A l.length c) ∧ l.length ≤ c) ∧ KO w0 (.slice A l.length c) l w := by
  obtain ⟨A, c, hv, hc⟩ := h.own.slice
  subst hv
  exact ⟨A, c, ⟨rfl, hc⟩, h⟩
theorem ko_new (w : World) (cs : Array Value) (l : List UInt8) (h : cs = (bys l).toArray) (hm : l.length ≤ maxLen) : KO w (.slice (some ⟨w.heap.size, 0, none⟩) l.length l.length) l (w.alloc (.cells cs 5)) := ⟨below_new w _, own_new w cs l h hm⟩
theorem slice_high (a : Option Addr) (len cap K : Nat) (h : K ≤ cap) (W : World) : (Instr.slice 34 (.slice a len cap) none (some (.int .i64 (K : Int))) none).run Tryd.prog W = .ok (.slice (if cap = 0 then a else a.map (·.add 0)) K cap) W := by
  obtain ⟨i0, hi0, hz0, hz1, hz2⟩ := info_parts b_info
  simp [Instr.slice, run_underlying Tryd.underlying34, Instr.sliceBounds, Instr.sliceBound, asIntOf, sizeOf, typeInfo, hi0, h]
theorem sgrow_any (n : Nat) (h0 : 0 < n) (hn : n ≤ 1048576) (w : World) :
    Calls Tryd.prog 45 #[.slice none 0 0, .int .i64 (n : Int)] w fun e w' => ∃ v, e = .returned v ∧ KO w v [] w' := by
  obtain ⟨i0, hi0, hz0, hz1, hz2⟩ := info_parts b_info
  have hr := fun ty => Lib.run_append_nil_zeros (P := Tryd.prog) w 34 3 ty 5 i0 (.int .u8 0) .i64 .i64 Tryd.underlying34 Tryd.underlying3 hi0 hz0 n h0 (by omega) (by omega) (by rw [hz2]; omega)
  have hC1 := grownCap_ge w n 0 5
  have hC2 := grownCap_le_maxLen w n 0 5 (by simp only [maxLen]; omega)
  have hZ : (Builtin.zeroCells (Value.int .u8 0).cells n ++ Builtin.zeroCells (Value.int .u8 0).cells (grownCap w n 0 5 - n)).size = grownCap w n 0 5 * 1 := by
    simp [Builtin.zeroCells, Value.cells]; omega
  generalize grownCap w n 0 5 = C at *
  generalize (Builtin.zeroCells (Value.int .u8 0).cells n ++ Builtin.zeroCells (Value.int .u8 0).cells (C - n)) = Z at *
  have hs : ∀ W, (Instr.slice 34 (.slice (some ⟨w.heap.size, 0, none⟩) n C) none (some (.int .i64 0)) none).run Tryd.prog W = .ok (.slice (some ⟨w.heap.size, 0, none⟩) 0 C) W := fun W => by
    have := slice_high (some ⟨w.heap.size, 0, none⟩) n C 0 (by omega) W
    rw [if_neg (by omega)] at this
    simpa [Addr.add] using this
  have hown : Own (w.drew.alloc (.cells Z 5)) w.heap.size (.slice (some ⟨w.heap.size, 0, none⟩) 0 C) [] :=
    ⟨by simp [bys], .inr ⟨w.heap.size, C, Z, rfl, Nat.le_refl _, heap_alloc_new w.drew _, Nat.zero_le _, hC2, hZ, by simp [bys]⟩⟩
  have hbel : Below w.heap.size w (w.drew.alloc (.cells Z 5)) := (Below.refl w.heap.size w).drew.alloc (Nat.le_refl _) _
  have HO := Lib.hid hown; have HB := Lib.hid hbel; have HR := Lib.hid hr; have HZ := Lib.hid hZ
  clear hown hbel hr hZ hC2 hi0 hz0 hz1 hz2
  go_enter Tryd.func45, Tryd.ntmps45
  go_wp2_with (first
    | (refine Lib.wpList_append_run _ rfl _ _ _ _ rfl _ _ rfl rfl _ _ (HR.out _) ?_))
  go_ret
  exact ⟨_, rfl, HB.out, HO.out⟩

/-- Slices of bytes, each with the bytes that it reads, as the cells of a row. -/
abbrev BPart := Option Addr × Nat × List UInt8
def partL (L : List BPart) : List UInt8 := L.flatMap (·.2.2)
def PartsAt (w : World) (b : Nat) (L : List BPart) : Prop := ∀ i x, L[i]? = some x → w.cell? ⟨b, i, none⟩ = some (.slice x.1 x.2.2.length x.2.1) ∧ Bys w x.1 x.2.2
theorem partL_take {L : List BPart} {k : Nat} {x : BPart} (h : L[k]? = some x) : partL (L.take (k + 1)) = partL (L.take k) ++ x.2.2 := by
  simp [partL, List.take_add_one, h]
theorem partL_le {L : List BPart} (k : Nat) : (partL (L.take k)).length ≤ (partL L).length := by
  conv => rhs; rw [← List.take_append_drop k L]
  simp only [partL, List.flatMap_append, List.length_append]; omega
theorem concat_any (b cap : Nat) (L : List BPart) (hN : 0 < (partL L).length) (hN2 : (partL L).length ≤ 100000) (hm : L.length ≤ 1000) (w : World) (hp : PartsAt w b L) :
    Calls Tryd.prog 41 #[.slice (some ⟨b, 0, none⟩) L.length cap] w fun e w' => ∃ A c, (e = .returned (.slice A (partL L).length c) ∧ (partL L).length ≤ c) ∧ KO w (.slice A (partL L).length c) (partL L) w' := by
  have HP := Lib.hid hp; clear hp
  generalize hm' : L.length = m at hm
  have HL := Lib.hid hm'; clear hm'
  have HT := Lib.hid (fun k : Nat => partL_le (L := L) k)
  go_enter Tryd.func41, Tryd.ntmps41
  go_wp2
  go_loop [3, 11] (fun s i => ∃ k : Nat, k ≤ m ∧ i = .int .i64 k ∧ s = .int .i64 ((partL (L.take k)).length : Int)) (fun _ i => m - (intOf i).toNat)
  case atStart => exact ⟨0, by omega, rfl, by simp [partL]⟩
  case round =>
    obtain ⟨k, hk, rfl, rfl⟩ := hrel
    by_cases hlt : k < m
    · obtain ⟨x, hx⟩ : ∃ x, L[k]? = some x := ⟨_, List.getElem?_eq_getElem (by have := HL.out; omega)⟩
      obtain ⟨A, c, zs⟩ := x
      have hcell : w.cell? ⟨b, k, none⟩ = some (.slice A zs.length c) := (HP.out k _ hx).1
      have hs : (partL (L.take (k + 1))).length = (partL (L.take k)).length + zs.length := by rw [partL_take hx, List.length_append]
      have hle := HT.out (k + 1)
      have HS := Lib.hid hs
      rw [hs] at hle
      clear hx hs
      generalize (partL (L.take k)).length = S at *
      generalize zs.length = q at *
      have i1 : (0 : Int) ≤ (k : Int) := by omega
      have i2 : (k : Int) < (m : Int) := by omega
      go_wp2
      go_round
      case rel => exact ⟨k + 1, by omega, by go_num, by rw [HS.out]; go_num⟩
      case measure => simp [intOf]; omega
    · obtain rfl : k = m := by omega
      rw [show L.take k = L by rw [← HL.out]; exact List.take_length]
      have HK := Lib.hid True.intro
      go_wp2_with (first
        | (go_at_call 45; (with_reducible refine (sgrow_any (partL L).length hN (by omega) _).mono ?_); rintro e u ⟨v0, rfl, hk⟩; clear HK; have HK := Lib.hid hk; clear hk))
      go_loopw [6, 27] (fun v i wr => ∃ j : Nat, j ≤ k ∧ i = .int .i64 j ∧ KO w v (partL (L.take j)) wr) (fun _ i _ => k - (intOf i).toNat)
      case atStart => exact ⟨0, by omega, rfl, by simpa [partL] using HK.out⟩
      case round =>
        obtain ⟨j, hj, rfl, hk⟩ := hrel
        clear HK
        have HK := Lib.hid hk
        clear hk
        by_cases hlt : j < k
        · obtain ⟨x, hx⟩ : ∃ x, L[j]? = some x := ⟨_, List.getElem?_eq_getElem (by have := HL.out; omega)⟩
          obtain ⟨A, c, zs⟩ := x
          obtain ⟨h1, h2⟩ := HP.out j _ hx
          have hcell : wr.cell? ⟨b, j, none⟩ = some (.slice A zs.length c) := by rw [HK.out.bel.cell (cell_lt h1)]; exact h1
          have HR := Lib.hid (h2.below HK.out.bel)
          have hq : partL (L.take (j + 1)) = partL (L.take j) ++ zs := partL_take hx
          have HQ := Lib.hid hq
          have HLE := Lib.hid (show (partL (L.take j)).length + zs.length ≤ 1048576 by have h5 := HT.out (j + 1); rw [hq, List.length_append] at h5; omega)
          clear hx hq h1 h2
          have i1 : (0 : Int) ≤ (j : Int) := by omega
          have i2 : (j : Int) < (k : Int) := by omega
          go_wp2_with (first
            | (refine app_more HK.out HR.out rfl rfl _ _ rfl rfl rfl HLE.out ?_; intro v' w' hk; clear HK; have HK := Lib.hid hk; clear hk))
          go_roundw
          case rel => exact ⟨j + 1, by omega, by go_num, by rw [HQ.out]; exact HK.out⟩
          case measure => simp [intOf]; omega
        · obtain rfl : j = k := by omega
          have hk := HK.out
          rw [show L.take j = L by rw [← HL.out]; exact List.take_length] at hk
          clear HK
          have HK := Lib.hid hk; clear hk
          go_wp2
          go_ret
          exact HK.out.out
theorem KO.lift {w0 w w' : World} {v : Value} {l : List UInt8} (hb : Below w0.heap.size w0 w) (h : KO w v l w') : KO w0 v l w' := ⟨hb.trans (h.bel.mono hb.size), h.own.mono hb.size⟩
/-- What a call that makes bytes ends with. -/
def Makes (w : World) (l : List UInt8) (e : Ending) (w' : World) : Prop := ∃ A c, (e = .returned (.slice A l.length c) ∧ l.length ≤ c) ∧ KO w (.slice A l.length c) l w'
theorem parts3 {u : World} {A A2 A3 : Option Addr} {c c2 c3 k k2 k3 : Nat} {l m n : List UInt8} (hl : l.length = k) (hm : m.length = k2) (hn : n.length = k3) (h1 : Bys u A l) (h2 : Bys u A2 m) (h3 : Bys u A3 n) : PartsAt (u.alloc (.cells #[.slice A k c, .slice A2 k2 c2, .slice A3 k3 c3] 34)) u.heap.size [(A, c, l), (A2, c2, m), (A3, c3, n)] := by
  subst hl; subst hm; subst hn
  have hh := heap_alloc_new u (.cells #[.slice A l.length c, .slice A2 m.length c2, .slice A3 n.length c3] 34)
  intro i x hx
  match i, hx with
  | 0, hx =>
    simp at hx; subst hx
    exact ⟨by rw [cell_of_row _ u.heap.size 0 _ 34 _ hh]; rfl, h1.below (below_new _ _)⟩
  | 1, hx =>
    simp at hx; subst hx
    exact ⟨by rw [cell_of_row _ u.heap.size 1 _ 34 _ hh]; rfl, h2.below (below_new _ _)⟩
  | 2, hx =>
    simp at hx; subst hx
    exact ⟨by rw [cell_of_row _ u.heap.size 2 _ 34 _ hh]; rfl, h3.below (below_new _ _)⟩
  | n + 3, hx => simp at hx
theorem concat3 (b cap : Nat) (A A2 A3 : Option Addr) (c c2 c3 : Nat) (l m n : List UInt8) (h0 : 0 < l.length) (h1 : l.length + m.length + n.length ≤ 100000) (w : World) (hp : PartsAt w b [(A, c, l), (A2, c2, m), (A3, c3, n)]) :
    Calls Tryd.prog 41 #[.slice (some ⟨b, 0, none⟩) 3 cap] w (Makes w (l ++ m ++ n)) := by
  have e : partL [(A, c, l), (A2, c2, m), (A3, c3, n)] = l ++ m ++ n := by simp [partL]
  have h := concat_any b cap [(A, c, l), (A2, c2, m), (A3, c3, n)] (by rw [e, List.length_append, List.length_append]; omega) (by rw [e, List.length_append, List.length_append]; exact h1) (by simp) w hp
  rw [e] at h
  exact h
theorem eq_nil (A : Option Addr) (k c : Nat) (W : World) : (binOp .eql 34 (.slice A k c) (.slice none 0 0)).run Tryd.prog W = .ok (.bool A.isNone) W := by
  simp only [binOp]
  simp [run_equal_slice_nil W 34 5 A k c Tryd.underlying34]
theorem makes_of {w0 w : World} {v : Value} {l : List UInt8} (h : KO w0 v l w) : Makes w0 l (.returned v) w := h.out
theorem run_build0 (u : World) : (Instr.buildSlice 34 0 #[]).run Tryd.prog u = .ok (.slice (some ⟨u.heap.size, 0, none⟩) 0 0) (u.alloc (.cells #[] 5)) := by
  obtain ⟨i0, hi0, hz0, hz1, hz2⟩ := info_parts b_info
  simp [Instr.buildSlice, run_underlying Tryd.underlying34, sizeOf, typeInfo, hi0, Instr.fill, newRow, newObj]
  rw [show Array.map (fun _ : Nat => (default : Value)) (Array.range 0) = #[] from by simp]
  rfl
/-- A row with none. -/
theorem build_none {w0 u : World} {ops : Array Oper} {rest : List Oper} {o : Oper} {a : Act} {Q : Exit → Act → World → Prop} (hb : Below w0.heap.size w0 u) (hgd : o.guard = none) (ho : o.op = .buildSlice 34 0 #[])
    (h : ∀ v u', KO w0 v [] u' → Below u.heap.size u u' → wpList Tryd.prog ops Q rest (a.put o.dst v) u') : wpList Tryd.prog ops Q (o :: rest) a u :=
  wpList_plain hgd fun K hK => by
    unfold Oper.wp execOp
    simp only [ho, List.map_toArray, List.map_nil, Sem.run_bind, Sem.run_pure, Result.andThen_ok, run_build0]
    exact hK _ _ (h _ _ ⟨hb.trans ((below_new _ _).mono hb.size), (own_new u #[] [] rfl (by simp [maxLen])).mono hb.size⟩ (below_new _ _))
theorem clone_any (A : Option Addr) (k c : Nat) (l : List UInt8) (hl : l.length = k) (hm : k ≤ 1000000) (w : World) (hd : Bys w A l) :
    Calls Tryd.prog 32 #[.slice A k c] w (Makes w l) := by
  have HD := Lib.hid hd; have HL := Lib.hid hl
  clear hl
  cases A with
  | none =>
    have hE : l = [] := by
      rcases hd with h | ⟨b, off, h, _⟩
      · exact h
      · cases h
    subst hE
    obtain rfl : k = 0 := HL.out.symm
    clear hd
    have hq := eq_nil none 0 c
    simp only [Option.isNone_none] at hq
    go_enter Tryd.func32, Tryd.ntmps32
    go_wp2
    go_ret
    exact makes_of (KO.start w)
  | some ad =>
    clear hd
    have hq := eq_nil (some ad) k c
    simp only [Option.isNone_some] at hq
    have HK := Lib.hid (KO.start w)
    go_enter Tryd.func32, Tryd.ntmps32
    go_wp2_with (first
      | (with_reducible refine build_none HK.out.bel rfl rfl ?_; intro v u hk hb; have hd := HD.out.below hb; clear HD HK hb; have HK := Lib.hid hk; have HD := Lib.hid hd; clear hk hd)
      | (refine app_more HK.out HD.out HL.out rfl _ _ rfl rfl rfl (by simp [HL.out]; omega) ?_; intro v' u hk; clear HK; have HK := Lib.hid hk; clear hk))
    go_ret
    have hk := HK.out
    rw [List.nil_append] at hk
    exact makes_of hk
end Go.Proofs.YtnbhgnkkedainaaDoor
