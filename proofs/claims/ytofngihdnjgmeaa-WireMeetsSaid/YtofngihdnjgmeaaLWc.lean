/- Contracts of slices.Grow and slices.Concat of holds. -/
import Derived.Test.YtofngihdnjgmeaaLHoRow
import Derived.Lib.AppendZeros
namespace Go.Proofs.Ytofngihdnjgmeaa
set_option maxRecDepth 100000
open Go.ChangeShapes Go.WideShapes Go.ChangeAt Go.RowKit

theorem slice_highH (a : Option Addr) (len cap K : Nat) (h : K ≤ cap) (W : World) : (Instr.slice 31 (.slice a len cap) none (some (.int .i64 (K : Int))) none).run Try.prog W = .ok (.slice (if cap = 0 then a else a.map (·.add 0)) K cap) W := by
  obtain ⟨i0, hi0, hz0, hz1, hz2⟩ := info_parts h_info3
  simp [Instr.slice, run_underlying Try.underlying31, Instr.sliceBounds, Instr.sliceBound, asIntOf, sizeOf, typeInfo, hi0, h]
theorem KeepH.none0 (w : World) : KeepH w [] (.slice none 0 0) [] w := ⟨KeepR.start w, Own.nil _ _, by simp⟩
theorem hgrow_any (n : Nat) (hn : n ≤ 1000) (w : World) :
    Calls Try.prog 48 #[.slice none 0 0, .int .i64 (n : Int)] w fun e w' => ∃ v, e = .returned v ∧ KeepH w [] v [] w' := by
  by_cases h0 : 0 < n
  · obtain ⟨i0, hi0, hz0, hz1, hz2⟩ := info_parts h_info3
    have hr := fun ty => Lib.run_append_nil_zeros (P := Try.prog) w 31 3 ty 59 i0 (.agg (vals (zer 5)).toArray) .i64 .i64 Try.underlying31 Try.underlying3 hi0 hz0 n h0 (by omega) (by omega) (by rw [hz2]; omega)
    have hC1 := grownCap_ge w n 0 59
    have hC2 := grownCap_le_maxLen w n 0 59 (by simp only [maxLen]; omega)
    have hZ : (Builtin.zeroCells (Value.agg (vals (zer 5)).toArray).cells n ++ Builtin.zeroCells (Value.agg (vals (zer 5)).toArray).cells (grownCap w n 0 59 - n)).size = grownCap w n 0 59 * 5 := by
      have hs : (Value.agg (vals (zer 5)).toArray).cells.size = 5 := rfl
      simp only [Array.size_append, Builtin.zeroCells]
      first
        | (simp [hs]; omega)
        | (simp; omega)
    generalize grownCap w n 0 59 = C at *
    generalize (Builtin.zeroCells (Value.agg (vals (zer 5)).toArray).cells n ++ Builtin.zeroCells (Value.agg (vals (zer 5)).toArray).cells (C - n)) = Z at *
    have hs : ∀ W, (Instr.slice 31 (.slice (some ⟨w.heap.size, 0, none⟩) n C) none (some (.int .i64 0)) none).run Try.prog W = .ok (.slice (some ⟨w.heap.size, 0, none⟩) 0 C) W := fun W => by
      have := slice_highH (some ⟨w.heap.size, 0, none⟩) n C 0 (by omega) W
      rw [if_neg (by omega)] at this
      simpa [Addr.add] using this
    have hown : Own (w.drew.alloc (.cells Z 59)) w.heap.size (.slice (some ⟨w.heap.size, 0, none⟩) 0 C) [] :=
      ⟨by simp [flat, vals], .inr ⟨w.heap.size, C, Z, rfl, Nat.le_refl _, heap_alloc_new w.drew _, Nat.zero_le _, hC2, hZ, by simp [flat, vals]⟩⟩
    have hbel : Below w.heap.size w (w.drew.alloc (.cells Z 59)) := (Below.refl w.heap.size w).drew.alloc (Nat.le_refl _) _
    have HO := Lib.hid (show KeepH w [] (.slice (some ⟨w.heap.size, 0, none⟩) 0 C) [] (w.drew.alloc (.cells Z 59)) from ⟨(KeepR.start w).call hbel, hown, by simp⟩)
    have HR := Lib.hid hr
    clear hown hbel hr hZ hC2 hi0 hz0 hz1 hz2
    go_enter Try.func48, Try.ntmps48
    go_wp2_with (first
      | (refine Lib.wpList_append_run _ rfl _ _ _ _ rfl _ _ rfl rfl _ _ (HR.out _) ?_))
    go_ret
    exact ⟨_, rfl, HO.out⟩
  · obtain rfl : n = 0 := by omega
    go_enter Try.func48, Try.ntmps48
    go_wp2
    go_ret
    exact ⟨_, rfl, KeepH.none0 w⟩

/-- Slices of holds, each with the holds that it reads, as the cells of a row. -/
abbrev HPart := Option Addr × Nat × List Ho
def partH (L : List HPart) : List Ho := L.flatMap (·.2.2)
def PartsH (w : World) (b : Nat) (L : List HPart) : Prop := ∀ i x, L[i]? = some x → w.cell? ⟨b, i, none⟩ = some (.slice x.1 x.2.2.length x.2.1) ∧ Row w x.1 x.2.2.length x.2.2
theorem partH_take {L : List HPart} {k : Nat} {x : HPart} (h : L[k]? = some x) : partH (L.take (k + 1)) = partH (L.take k) ++ x.2.2 := by
  simp [partH, List.take_add_one, h]
theorem partH_le {L : List HPart} (k : Nat) : (partH (L.take k)).length ≤ (partH L).length := by
  conv => rhs; rw [← List.take_append_drop k L]
  simp only [partH, List.flatMap_append, List.length_append]; omega
theorem concatH_any (b cap : Nat) (L : List HPart) (hN2 : (partH L).length ≤ 1000) (hm : L.length ≤ 1000) (w : World) (hp : PartsH w b L) :
    Calls Try.prog 27 #[.slice (some ⟨b, 0, none⟩) L.length cap] w fun e w' => ∃ v, e = .returned v ∧ KeepH w [] v (partH L) w' := by
  have HP := Lib.hid hp; clear hp
  generalize hm' : L.length = m at hm
  have HL := Lib.hid hm'; clear hm'
  have HT := Lib.hid (fun k : Nat => partH_le (L := L) k)
  go_enter Try.func27, Try.ntmps27
  go_wp2
  go_loop [3, 11] (fun s i => ∃ k : Nat, k ≤ m ∧ i = .int .i64 k ∧ s = .int .i64 ((partH (L.take k)).length : Int)) (fun _ i => m - (intOf i).toNat)
  case atStart => exact ⟨0, by omega, rfl, by simp [partH]⟩
  case round =>
    obtain ⟨k, hk, rfl, rfl⟩ := hrel
    by_cases hlt : k < m
    · obtain ⟨x, hx⟩ : ∃ x, L[k]? = some x := ⟨_, List.getElem?_eq_getElem (by have := HL.out; omega)⟩
      obtain ⟨A, c, zs⟩ := x
      have hcell : w.cell? ⟨b, k, none⟩ = some (.slice A zs.length c) := (HP.out k _ hx).1
      have hs : (partH (L.take (k + 1))).length = (partH (L.take k)).length + zs.length := by rw [partH_take hx, List.length_append]
      have hle := HT.out (k + 1)
      have HS := Lib.hid hs
      rw [hs] at hle
      clear hx hs
      generalize (partH (L.take k)).length = S at *
      generalize zs.length = q at *
      have i1 : (0 : Int) ≤ (k : Int) := by omega
      have i2 : (k : Int) < (m : Int) := by omega
      go_wp2
      go_round
      case rel => exact ⟨k + 1, by omega, by go_num, by rw [HS.out]; go_num⟩
      case measure => simp [intOf]; omega
    · obtain rfl : k = m := by omega
      rw [show L.take k = L by rw [← HL.out]; exact List.take_length]
      have HK := Lib.hid True.intro
      go_wp2_with (first
        | (go_at_call 48; (with_reducible refine (hgrow_any (partH L).length hN2 _).mono ?_); rintro e u ⟨v0, rfl, hk⟩; clear HK; have HK := Lib.hid hk; clear hk))
      go_loopw [6, 27] (fun v i wr => ∃ j : Nat, j ≤ k ∧ i = .int .i64 j ∧ KeepH w [] v (partH (L.take j)) wr) (fun _ i _ => k - (intOf i).toNat)
      case atStart => exact ⟨0, by omega, rfl, by simpa [partH] using HK.out⟩
      case round =>
        obtain ⟨j, hj, rfl, hk⟩ := hrel
        clear HK
        have HK := Lib.hid hk
        clear hk
        by_cases hlt : j < k
        · obtain ⟨x, hx⟩ : ∃ x, L[j]? = some x := ⟨_, List.getElem?_eq_getElem (by have := HL.out; omega)⟩
          obtain ⟨A, c, zs⟩ := x
          obtain ⟨h1, h2⟩ := HP.out j _ hx
          have hcell : wr.cell? ⟨b, j, none⟩ = some (.slice A zs.length c) := by rw [HK.out.keep.bel.cell (cell_lt h1)]; exact h1
          have HR := Lib.hid (h2.below HK.out.keep.bel (Nat.le_refl _))
          have hq : partH (L.take (j + 1)) = partH (L.take j) ++ zs := partH_take hx
          have HQ := Lib.hid hq
          have HLE := Lib.hid (show (partH (L.take j)).length + zs.length ≤ 2000 by have h5 := HT.out (j + 1); rw [hq, List.length_append] at h5; omega)
          clear hx hq h1 h2
          have i1 : (0 : Int) ≤ (j : Int) := by omega
          have i2 : (j : Int) < (k : Int) := by omega
          go_wp2_with (first
            | (refine app_hos HK.out rfl _ _ rfl rfl A _ c zs rfl HR.out HLE.out ?_; intro v' w' hk; clear HK; have HK := Lib.hid hk; clear hk))
          go_roundw
          case rel => exact ⟨j + 1, by omega, by go_num, by rw [HQ.out]; exact HK.out⟩
          case measure => simp [intOf]; omega
        · obtain rfl : j = k := by omega
          have hk := HK.out
          rw [show L.take j = L by rw [← HL.out]; exact List.take_length] at hk
          clear HK
          have HK := Lib.hid hk; clear hk
          go_wp2
          go_ret
          exact ⟨_, rfl, HK.out⟩
end Go.Proofs.Ytofngihdnjgmeaa
