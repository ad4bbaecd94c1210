/- Contracts of slices.Grow and slices.Concat of ints. -/
import Derived.Test.YtpbjencigepnfaaLess
namespace Go.Proofs.Ytpbjencigepnfaa
open Go.ChangeShapes Go.WideShapes Go.ChangeAt Go.RowKit

theorem own_base {w : World} {base : Nat} {e : TypeId} {s : Nat} {v : Value} {n : Nat} {xs : List Value} (h : w.ownsRow base e s v n xs) (k : Nat) (hk : v.ownBlock = some k) : base ≤ k := by
  rcases h.2 with ⟨rfl, _⟩ | ⟨g, cap, cur, rfl, hg, _⟩
  · simp [Value.ownBlock] at hk
  · simp [Value.ownBlock] at hk; omega
theorem own_below {w w' : World} {base : Nat} {e : TypeId} {s : Nat} {v : Value} {n : Nat} {xs : List Value} (h : w.ownsRow base e s v n xs) (hb : Below w.heap.size w w') : w'.ownsRow base e s v n xs := by
  refine ⟨h.1, ?_⟩
  rcases h.2 with ⟨h1, h2⟩ | ⟨g, cap, cur, h1, h2, h3, h4⟩
  · exact .inl ⟨h1, h2⟩
  · refine .inr ⟨g, cap, cur, h1, h2, ?_, h4⟩
    rw [hb.block g (Array.getElem?_eq_some_iff.1 h3).1]; exact h3

theorem sgrow_any (n : Nat) (h0 : 0 < n) (hn : n ≤ 100000) (w : World) :
    Calls Try.prog 49 #[.slice none 0 0, .int .i64 (n : Int)] w fun e w' => ∃ v, e = .returned v ∧ w'.ownsRow w.heap.size 3 1 v 0 (vals []) ∧ Below w.heap.size w w' := by
  obtain ⟨i0, hi0, hz0, hz1, hz2⟩ := info_parts int_info
  have hr := fun ty => Lib.run_append_nil_zeros (P := Try.prog) w 51 3 ty 3 i0 (.int .i64 0) .i64 .i64 Try.underlying51 Try.underlying3 hi0 hz0 n h0 (by omega) (by omega) (by rw [hz2]; omega)
  have hC1 := grownCap_ge w n 0 3
  have hC2 := grownCap_le_maxLen w n 0 3 (by simp only [maxLen]; omega)
  have hZ : (Builtin.zeroCells (Value.int .i64 0).cells n ++ Builtin.zeroCells (Value.int .i64 0).cells (grownCap w n 0 3 - n)).size = grownCap w n 0 3 * 1 := by
    simp [Builtin.zeroCells, Value.cells]; omega
  generalize grownCap w n 0 3 = C at *
  generalize (Builtin.zeroCells (Value.int .i64 0).cells n ++ Builtin.zeroCells (Value.int .i64 0).cells (C - n)) = Z at *
  have hs : ∀ W, (Instr.slice 51 (.slice (some ⟨w.heap.size, 0, none⟩) n C) none (some (.int .i64 0)) none).run Try.prog W = .ok (.slice (some ⟨w.heap.size, 0, none⟩) 0 C) W := fun W => by
    have := slice_high (some ⟨w.heap.size, 0, none⟩) n C 0 (by omega) W
    rw [if_neg (by omega)] at this
    simpa [Addr.add] using this
  have hown : (w.drew.alloc (.cells Z 3)).ownsRow w.heap.size 3 1 (.slice (some ⟨w.heap.size, 0, none⟩) 0 C) 0 (vals []) :=
    ⟨by simp [vals], .inr ⟨w.heap.size, C, Z, rfl, Nat.le_refl _, heap_alloc_new w.drew _, by omega, hC2, hZ, by simp [vals]⟩⟩
  have hbel : Below w.heap.size w (w.drew.alloc (.cells Z 3)) := (Below.refl w.heap.size w).drew.alloc (Nat.le_refl _) _
  have HO := Lib.hid hown; have HB := Lib.hid hbel; have HR := Lib.hid hr; have HZ := Lib.hid hZ
  clear hown hbel hr hZ hC2 hi0 hz0 hz1 hz2
  go_enter Try.func49, Try.ntmps49
  go_wp2_with (first
    | (refine Lib.wpList_append_run _ rfl _ _ _ _ rfl _ _ rfl rfl _ _ (HR.out _) ?_))
  go_ret
  exact ⟨_, rfl, HO.out, HB.out⟩

/-- Slices of ints, each with the numbers that it reads. -/
abbrev IntPart := Option Addr × Nat × Nat × List Int
def partN (L : List IntPart) : Nat := (L.map (·.2.1)).sum
def partL (L : List IntPart) : List Int := L.flatMap (·.2.2.2)
def PartsAt (w : World) (b : Nat) (L : List IntPart) : Prop := ∀ i x, L[i]? = some x → w.cell? ⟨b, i, none⟩ = some (.slice x.1 x.2.1 x.2.2.1) ∧ Reads w x.1 x.2.1 x.2.2.2
theorem partN_take {L : List IntPart} {k : Nat} {x : IntPart} (h : L[k]? = some x) : partN (L.take (k + 1)) = partN (L.take k) + x.2.1 := by
  simp [partN, List.take_add_one, h]
theorem partL_take {L : List IntPart} {k : Nat} {x : IntPart} (h : L[k]? = some x) : partL (L.take (k + 1)) = partL (L.take k) ++ x.2.2.2 := by
  simp [partL, List.take_add_one, h]
theorem partN_le {L : List IntPart} (k : Nat) : partN (L.take k) ≤ partN L := by
  conv => rhs; rw [← List.take_append_drop k L]
  simp only [partN, List.map_append, List.sum_append]; omega

theorem concat_any (b cap : Nat) (L : List IntPart) (hN : 0 < partN L) (hN2 : partN L ≤ 1000) (hm : L.length ≤ 1000) (w : World) (hp : PartsAt w b L) :
    Calls Try.prog 31 #[.slice (some ⟨b, 0, none⟩) L.length cap] w fun e w' => ∃ A c, e = .returned (.slice A (partN L) c) ∧ Reads w' A (partN L) (partL L) ∧ Below w.heap.size w w' := by
  have HP := Lib.hid hp; clear hp
  generalize hm' : L.length = m at hm
  have HL := Lib.hid hm'; clear hm'
  have HT := Lib.hid (fun k : Nat => partN_le (L := L) k)
  go_enter Try.func31, Try.ntmps31
  go_wp2
  go_loop [3, 11] (fun s i => ∃ k : Nat, k ≤ m ∧ i = .int .i64 k ∧ s = .int .i64 (partN (L.take k) : Int)) (fun _ i => m - (intOf i).toNat)
  case atStart => exact ⟨0, by omega, rfl, by simp [partN]⟩
  case round =>
    obtain ⟨k, hk, rfl, rfl⟩ := hrel
    by_cases hlt : k < m
    · obtain ⟨x, hx⟩ : ∃ x, L[k]? = some x := ⟨_, List.getElem?_eq_getElem (by have := HL.out; omega)⟩
      obtain ⟨A, n, c, zs⟩ := x
      have hcell : w.cell? ⟨b, k, none⟩ = some (.slice A n c) := (HP.out k _ hx).1
      have hs : partN (L.take (k + 1)) = partN (L.take k) + n := partN_take hx
      have hle := HT.out (k + 1)
      have HS := Lib.hid hs
      rw [hs] at hle
      clear hx hs
      generalize partN (L.take k) = S at *
      have i1 : (0 : Int) ≤ (k : Int) := by omega
      have i2 : (k : Int) < (m : Int) := by omega
      go_wp2
      go_round
      case rel => exact ⟨k + 1, by omega, by go_num, by rw [HS.out]; go_num⟩
      case measure => simp [intOf]; omega
    · obtain rfl : k = m := by omega
      rw [show L.take k = L by rw [← HL.out]; exact List.take_length]
      have HO := Lib.hid True.intro
      go_wp2_with (first
        | (go_at_call 49; (with_reducible refine (sgrow_any (partN L) hN (by omega) _).mono ?_); rintro e u ⟨v0, rfl, ho, hb⟩; clear HO; have HO := Lib.hid ho; have HB := Lib.hid hb; clear ho hb))
      go_loopw [6, 27] (fun v i wr => ∃ j : Nat, j ≤ k ∧ i = .int .i64 j ∧ wr.ownsRow w.heap.size 3 1 v (partN (L.take j)) (vals (partL (L.take j))) ∧ Below w.heap.size w wr) (fun _ i _ => k - (intOf i).toNat)
      case atStart => exact ⟨0, by omega, rfl, by simpa [partN, partL] using HO.out, HB.out⟩
      case round =>
        obtain ⟨j, hj, rfl, ho, hb⟩ := hrel
        clear HO HB
        have HO := Lib.hid ho; have HB := Lib.hid hb
        clear ho hb
        by_cases hlt : j < k
        · obtain ⟨x, hx⟩ : ∃ x, L[j]? = some x := ⟨_, List.getElem?_eq_getElem (by have := HL.out; omega)⟩
          obtain ⟨A, n, c, zs⟩ := x
          obtain ⟨h1, h2⟩ := HP.out j _ hx
          have hcell : wr.cell? ⟨b, j, none⟩ = some (.slice A n c) := by rw [HB.out.cell (cell_lt h1)]; exact h1
          have HR := Lib.hid (reads_below HB.out h2)
          have hs : partN (L.take (j + 1)) = partN (L.take j) + n := partN_take hx
          have hq : partL (L.take (j + 1)) = partL (L.take j) ++ zs := partL_take hx
          have hle := HT.out (j + 1)
          have HS := Lib.hid hs
          have HQ := Lib.hid hq
          rw [hs] at hle
          clear hx hs hq h1 h2
          have i1 : (0 : Int) ≤ (j : Int) := by omega
          have i2 : (j : Int) < (k : Int) := by omega
          go_wp2_with (first
            | (refine wpList_append_ints rfl _ _ rfl w.heap.size _ (partN (L.take j)) (partL (L.take j)) rfl HO.out A n c zs rfl HR.out (by omega) HB.out.size ?_; intro v' w' ho hg hv; have HO' := Lib.hid ho; have HB' := Lib.hid (HB.out.grown hg HB.out.size (own_base HO.out)); clear ho hg hv))
          go_roundw
          case rel => exact ⟨j + 1, by omega, by go_num, by rw [HS.out, HQ.out]; exact HO'.out, HB'.out⟩
          case measure => simp [intOf]; omega
        · obtain rfl : j = k := by omega
          have ho := HO.out
          rw [show L.take j = L by rw [← HL.out]; exact List.take_length] at ho
          have HO := Lib.hid ho; clear ho
          go_wp2
          go_ret
          obtain ⟨A, c, hv⟩ := own_slice HO.out
          have h3 := HO.out
          rw [hv] at h3
          exact ⟨A, c, congrArg Ending.returned hv, (own_reads h3 (by omega)).1, HB.out⟩
end Go.Proofs.Ytpbjencigepnfaa
