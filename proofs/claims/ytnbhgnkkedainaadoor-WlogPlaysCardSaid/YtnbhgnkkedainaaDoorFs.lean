/- The table in memory; shifted, Sum, and the document's Sum. -/
import Derived.Test.YtnbhgnkkedainaaDoorOk
import Derived.Laws.BitsAllLaws
namespace Go.Proofs.YtnbhgnkkedainaaDoor
open Go.ChangeShapes Go.WideShapes Go.ChangeAt Go.RowKit

/-- The table as it lies in memory. -/
def Nib (w : World) : Prop := ∀ i, i < 16 → w.cell? ⟨0, i, none⟩ = some (.int .u32 (nib i : Int))
theorem Nib.below {w w' : World} (h : Nib w) (hb : Below w.heap.size w w') : Nib w' := fun i hi => by
  have := h i hi
  rw [World.cell?_of_block (w := w) (w' := w') (hb.block 0 (cell_lt this))]; exact this
theorem Nib.drew {w : World} (h : Nib w) : Nib w.drew := h.below (Below.refl _ _).drew
theorem shifted_any (n : Nat) (hn : n < 4294967296) (w : World) (hw : Nib w) : Calls Tryd.prog 44 #[.int .u32 (n : Int)] w fun e w' => e = .returned (.int .u32 (sh4 n : Int)) ∧ w = w' := by
  have hr : n % 16 < 16 := Nat.mod_lt _ (by decide)
  have hc := hw _ hr
  have e2 : (n : Int).tmod 16 = ((n % 16 : Nat) : Int) := by rw [Int.tmod_eq_emod_of_nonneg (by omega)]; omega
  have hx : bits .xor .u32 ((n : Int) / 16) (nib (n % 16) : Int) = (sh4 n : Int) := by
    have := u32_xor_nat (n / 16) (nib (n % 16)) (by omega) (nib_lt _)
    rw [show (n : Int) / 16 = ((n / 16 : Nat) : Int) by omega]; exact this
  go_enter Tryd.func44, Tryd.ntmps44
  go_wp2
  go_ret
  exact ⟨rfl, rfl⟩
theorem shifted_eq (n m : Nat) (hn : n < 4294967296) (hm : sh4 n = m) (w : World) (hw : Nib w) : Calls Tryd.prog 44 #[.int .u32 (n : Int)] w fun e w' => e = .returned (.int .u32 (m : Int)) ∧ w = w' := by subst hm; exact shifted_any n hn w hw
theorem take_get {l : List UInt8} {m : Nat} (h : m < l.length) : l.take (m + 1) = l.take m ++ [l.getD m 0] := by
  rw [List.take_add_one, List.getElem?_eq_getElem h]; simp [List.getD, h]
set_option maxHeartbeats 1000000 in
theorem sum_any (A : Option Addr) (n c : Nat) (l : List UInt8) (hn : l.length = n) (hm : n ≤ 1048576) (w : World) (hd : Bys w A l) (hw : Nib w) :
    Calls Tryd.prog 40 #[.slice A n c] w fun e w' => e = .returned (.int .u32 (crc l : Int)) ∧ w = w' := by
  have HD := Lib.hid hd; have HL := Lib.hid hn; have HW := Lib.hid hw; clear hd hn hw
  go_enter Tryd.func40, Tryd.ntmps40
  go_wp2
  go_loopw [3, 8] (fun v i wr => ∃ m : Nat, m ≤ n ∧ i = .int .i64 m ∧ v = .int .u32 (crcF 4294967295 (l.take m) : Int) ∧ wr = w) (fun _ i _ => n - (intOf i).toNat)
  case atStart => exact ⟨0, by omega, rfl, by simp [crcF], rfl⟩
  case round =>
    obtain ⟨m, hm2, rfl, rfl, rfl⟩ := hrel
    have hJ : crcF 4294967295 (l.take m) < 4294967296 := crcF_lt _ (by decide)
    by_cases hlt : m < n
    · obtain ⟨b, off, rfl, hc⟩ := HD.out.at (k := m) (by rw [HL.out]; exact hlt)
      have hj : crcF 4294967295 (l.take (m + 1)) = stp (crcF 4294967295 (l.take m)) (l.getD m 0) := by
        rw [take_get (by rw [HL.out]; exact hlt), crcF_snoc]
      have HJ := Lib.hid hj; clear hj
      generalize l.getD m 0 = z at *
      generalize crcF 4294967295 (l.take m) = J at *
      have hx : bits .xor .u32 (J : Int) (z.toNat : Int) = ((J ^^^ z.toNat : Nat) : Int) := u32_xor_nat J z.toNat hJ (u8_lt z)
      have HX := Lib.hid (xor_lt hJ (u8_lt z))
      have HS := Lib.hid (stp_sh4 J z)
      have hz := z.toNat_lt
      clear hJ
      generalize J ^^^ z.toNat = X at *
      have i1 : (0 : Int) ≤ (m : Int) := by omega
      have i2 : (m : Int) < (n : Int) := by omega
      go_wp2_with (first
        | (go_at_call 44; (with_reducible refine (shifted_any X HX.out _ HW.out).mono ?_); rintro e u ⟨rfl, rfl⟩)
        | (go_at_call 44; (with_reducible refine (shifted_eq (sh4 X) (stp J z) (sh4_lt HX.out) HS.out _ HW.out).mono ?_); rintro e u ⟨rfl, rfl⟩))
      go_roundw
      case rel => exact ⟨m + 1, by omega, by go_num, by rw [HJ.out], trivial⟩
      case measure => simp [intOf]; omega
    · obtain rfl : m = n := by omega
      rw [show l.take m = l by rw [← HL.out]; exact List.take_length]
      have hx : bits .xor .u32 IntKind.u32.max (crcF 4294967295 l : Int) = (crc l : Int) := by
        have := u32_xor_nat 4294967295 (crcF 4294967295 l) (by decide) (crcF_lt _ (by decide))
        rw [Nat.xor_comm] at this; rw [show IntKind.u32.max = ((4294967295 : Nat) : Int) by decide]; exact this
      rw [show l.take m = l by rw [← HL.out]; exact List.take_length] at hJ
      generalize crcF 4294967295 l = J at *
      go_wp2
      go_ret
      exact ⟨rfl, rfl⟩
end Go.Proofs.YtnbhgnkkedainaaDoor
