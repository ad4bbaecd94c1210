/- Contracts of slices.Grow, Concat and Clone of bytes, of octets.Number, Text and New, and of the document's Text. -/
import Derived.Test.YtphoaklbjljfnaaOq
namespace Go.Proofs.Ytphoaklbjljfnaa
open Go.ChangeShapes Go.WideShapes Go.ChangeAt Go.RowKit

theorem slice_high (a : Option Addr) (len cap K : Nat) (h : K ≤ cap) (W : World) : (Instr.slice 22 (.slice a len cap) none (some (.int .i64 (K : Int))) none).run Try.prog W = .ok (.slice (if cap = 0 then a else a.map (·.add 0)) K cap) W := by
  obtain ⟨i0, hi0, hz0, hz1, hz2⟩ := info_parts b_info
  simp [Instr.slice, run_underlying Try.underlying22, Instr.sliceBounds, Instr.sliceBound, asIntOf, sizeOf, typeInfo, hi0, h]
theorem sgrow_any (n : Nat) (h0 : 0 < n) (hn : n ≤ 1048576) (w : World) :
    Calls Try.prog 25 #[.slice none 0 0, .int .i64 (n : Int)] w fun e w' => ∃ v, e = .returned v ∧ KO w v [] w' := by
  obtain ⟨i0, hi0, hz0, hz1, hz2⟩ := info_parts b_info
  have hr := fun ty => Lib.run_append_nil_zeros (P := Try.prog) w 22 3 ty 5 i0 (.int .u8 0) .i64 .i64 Try.underlying22 Try.underlying3 hi0 hz0 n h0 (by omega) (by omega) (by rw [hz2]; omega)
  have hC1 := grownCap_ge w n 0 5
  have hC2 := grownCap_le_maxLen w n 0 5 (by simp only [maxLen]; omega)
  have hZ : (Builtin.zeroCells (Value.int .u8 0).cells n ++ Builtin.zeroCells (Value.int .u8 0).cells (grownCap w n 0 5 - n)).size = grownCap w n 0 5 * 1 := by
    simp [Builtin.zeroCells, Value.cells]; omega
  generalize grownCap w n 0 5 = C at *
  generalize (Builtin.zeroCells (Value.int .u8 0).cells n ++ Builtin.zeroCells (Value.int .u8 0).cells (C - n)) = Z at *
  have hs : ∀ W, (Instr.slice 22 (.slice (some ⟨w.heap.size, 0, none⟩) n C) none (some (.int .i64 0)) none).run Try.prog W = .ok (.slice (some ⟨w.heap.size, 0, none⟩) 0 C) W := fun W => by
    have := slice_high (some ⟨w.heap.size, 0, none⟩) n C 0 (by omega) W
    rw [if_neg (by omega)] at this
    simpa [Addr.add] using this
  have hown : Own (w.drew.alloc (.cells Z 5)) w.heap.size (.slice (some ⟨w.heap.size, 0, none⟩) 0 C) [] :=
    ⟨by simp [bys], .inr ⟨w.heap.size, C, Z, rfl, Nat.le_refl _, heap_alloc_new w.drew _, Nat.zero_le _, hC2, hZ, by simp [bys]⟩⟩
  have hbel : Below w.heap.size w (w.drew.alloc (.cells Z 5)) := (Below.refl w.heap.size w).drew.alloc (Nat.le_refl _) _
  have HO := Lib.hid hown; have HB := Lib.hid hbel; have HR := Lib.hid hr; have HZ := Lib.hid hZ
  clear hown hbel hr hZ hC2 hi0 hz0 hz1 hz2
  go_enter Try.func25, Try.ntmps25
  go_wp2_with (first
    | (refine Lib.wpList_append_run _ rfl _ _ _ _ rfl _ _ rfl rfl _ _ (HR.out _) ?_))
  go_ret
  exact ⟨_, rfl, HB.out, HO.out⟩

/-- Slices of bytes, each with the bytes that it reads, as the cells of a row. -/
abbrev BPart := Option Addr × Nat × List UInt8
def partL (L : List BPart) : List UInt8 := L.flatMap (·.2.2)
def PartsAt (w : World) (b : Nat) (L : List BPart) : Prop := ∀ i x, L[i]? = some x → w.cell? ⟨b, i, none⟩ = some (.slice x.1 x.2.2.length x.2.1) ∧ Bys w x.1 x.2.2
theorem partL_take {L : List BPart} {k : Nat} {x : BPart} (h : L[k]? = some x) : partL (L.take (k + 1)) = partL (L.take k) ++ x.2.2 := by
  simp [partL, List.take_add_one, h]
theorem partL_le {L : List BPart} (k : Nat) : (partL (L.take k)).length ≤ (partL L).length := by
  conv => rhs; rw [← List.take_append_drop k L]
  simp only [partL, List.flatMap_append, List.length_append]; omega
theorem concat_any (b cap : Nat) (L : List BPart) (hN : 0 < (partL L).length) (hN2 : (partL L).length ≤ 100000) (hm : L.length ≤ 1000) (w : World) (hp : PartsAt w b L) :
    Calls Try.prog 18 #[.slice (some ⟨b, 0, none⟩) L.length cap] w fun e w' => ∃ A c, (e = .returned (.slice A (partL L).length c) ∧ (partL L).length ≤ c) ∧ KO w (.slice A (partL L).length c) (partL L) w' := by
  have HP := Lib.hid hp; clear hp
  generalize hm' : L.length = m at hm
  have HL := Lib.hid hm'; clear hm'
  have HT := Lib.hid (fun k : Nat => partL_le (L := L) k)
  go_enter Try.func18, Try.ntmps18
  go_wp2
  go_loop [3, 11] (fun s i => ∃ k : Nat, k ≤ m ∧ i = .int .i64 k ∧ s = .int .i64 ((partL (L.take k)).length : Int)) (fun _ i => m - (intOf i).toNat)
  case atStart => exact ⟨0, by omega, rfl, by simp [partL]⟩
  case round =>
    obtain ⟨k, hk, rfl, rfl⟩ := hrel
    by_cases hlt : k < m
    · obtain ⟨x, hx⟩ : ∃ x, L[k]? = some x := ⟨_, List.getElem?_eq_getElem (by have := HL.out; omega)⟩
      obtain ⟨A, c, zs⟩ := x
      have hcell : w.cell? ⟨b, k, none⟩ = some (.slice A zs.length c) := (HP.out k _ hx).1
      have hs : (partL (L.take (k + 1))).length = (partL (L.take k)).length + zs.length := by rw [partL_take hx, List.length_append]
      have hle := HT.out (k + 1)
      have HS := Lib.hid hs
      rw [hs] at hle
      clear hx hs
      generalize (partL (L.take k)).length = S at *
      generalize zs.length = q at *
      have i1 : (0 : Int) ≤ (k : Int) := by omega
      have i2 : (k : Int) < (m : Int) := by omega
      go_wp2
      go_round
      case rel => exact ⟨k + 1, by omega, by go_num, by rw [HS.out]; go_num⟩
      case measure => simp [intOf]; omega
    · obtain rfl : k = m := by omega
      rw [show L.take k = L by rw [← HL.out]; exact List.take_length]
      have HK := Lib.hid True.intro
      go_wp2_with (first
        | (go_at_call 25; (with_reducible refine (sgrow_any (partL L).length hN (by omega) _).mono ?_); rintro e u ⟨v0, rfl, hk⟩; clear HK; have HK := Lib.hid hk; clear hk))
      go_loopw [6, 27] (fun v i wr => ∃ j : Nat, j ≤ k ∧ i = .int .i64 j ∧ KO w v (partL (L.take j)) wr) (fun _ i _ => k - (intOf i).toNat)
      case atStart => exact ⟨0, by omega, rfl, by simpa [partL] using HK.out⟩
      case round =>
        obtain ⟨j, hj, rfl, hk⟩ := hrel
        clear HK
        have HK := Lib.hid hk
        clear hk
        by_cases hlt : j < k
        · obtain ⟨x, hx⟩ : ∃ x, L[j]? = some x := ⟨_, List.getElem?_eq_getElem (by have := HL.out; omega)⟩
          obtain ⟨A, c, zs⟩ := x
          obtain ⟨h1, h2⟩ := HP.out j _ hx
          have hcell : wr.cell? ⟨b, j, none⟩ = some (.slice A zs.length c) := by rw [HK.out.bel.cell (cell_lt h1)]; exact h1
          have HR := Lib.hid (h2.below HK.out.bel)
          have hq : partL (L.take (j + 1)) = partL (L.take j) ++ zs := partL_take hx
          have HQ := Lib.hid hq
          have HLE := Lib.hid (show (partL (L.take j)).length + zs.length ≤ 1048576 by have h5 := HT.out (j + 1); rw [hq, List.length_append] at h5; omega)
          clear hx hq h1 h2
          have i1 : (0 : Int) ≤ (j : Int) := by omega
          have i2 : (j : Int) < (k : Int) := by omega
          go_wp2_with (first
            | (refine app_more HK.out HR.out rfl rfl _ _ rfl rfl rfl HLE.out ?_; intro v' w' hk; clear HK; have HK := Lib.hid hk; clear hk))
          go_roundw
          case rel => exact ⟨j + 1, by omega, by go_num, by rw [HQ.out]; exact HK.out⟩
          case measure => simp [intOf]; omega
        · obtain rfl : j = k := by omega
          have hk := HK.out
          rw [show L.take j = L by rw [← HL.out]; exact List.take_length] at hk
          clear HK
          have HK := Lib.hid hk; clear hk
          go_wp2
          go_ret
          exact HK.out.out
end Go.Proofs.Ytphoaklbjljfnaa
