/- The document's Sum. -/
import Derived.Test.YtnbhgnkkedainaaDoorFs
namespace Go.Proofs.YtnbhgnkkedainaaDoor
open Go.ChangeShapes Go.WideShapes Go.ChangeAt Go.RowKit

/-- So many shifts. -/
def bk : Nat → Nat → Nat
  | 0, n => n
  | k + 1, n => bit (bk k n)
theorem bk_lt : ∀ (k : Nat) {n : Nat}, n < 4294967296 → bk k n < 4294967296
  | 0, _, h => h
  | k + 1, _, h => bit_lt (bk_lt k h)
theorem bk_eight (n : Nat) (c : UInt8) : bk 8 (n ^^^ c.toNat) = stp n c := rfl
theorem bit_even {n : Nat} (h : n % 2 = 0) : bit n = n / 2 := by unfold bit; rw [if_neg (by omega), Nat.xor_zero]
theorem bit_odd {n : Nat} (h : n % 2 = 1) : bit n = (n / 2) ^^^ 3988292384 := by unfold bit; rw [if_pos h]
set_option maxHeartbeats 1000000 in
theorem rsum_any (A : Option Addr) (n c : Nat) (l : List UInt8) (hn : l.length = n) (hm : n ≤ 1048576) (w : World) (hd : Bys w A l) :
    Calls Tryd.prog 38 #[.slice A n c] w fun e w' => e = .returned (.int .u32 (crc l : Int)) ∧ w = w' := by
  have HD := Lib.hid hd; have HL := Lib.hid hn; clear hd hn
  go_enter Tryd.func38, Tryd.ntmps38
  go_wp2
  go_loopw [3, 4] (fun v i wr => ∃ m : Nat, m ≤ n ∧ i = .int .i64 m ∧ v = .int .u32 (crcF 4294967295 (l.take m) : Int) ∧ wr = w) (fun _ i _ => n - (intOf i).toNat)
  case atStart => exact ⟨0, by omega, rfl, by simp [crcF], rfl⟩
  case round =>
    obtain ⟨m, hm2, rfl, rfl, rfl⟩ := hrel
    have hJ : crcF 4294967295 (l.take m) < 4294967296 := crcF_lt _ (by decide)
    by_cases hlt : m < n
    · obtain ⟨b, off, rfl, hc⟩ := HD.out.at (k := m) (by rw [HL.out]; exact hlt)
      have hj : crcF 4294967295 (l.take (m + 1)) = stp (crcF 4294967295 (l.take m)) (l.getD m 0) := by
        rw [take_get (by rw [HL.out]; exact hlt), crcF_snoc]
      have HJ := Lib.hid hj; clear hj
      generalize l.getD m 0 = z at *
      generalize crcF 4294967295 (l.take m) = J at *
      have hx : bits .xor .u32 (J : Int) (z.toNat : Int) = ((J ^^^ z.toNat : Nat) : Int) := u32_xor_nat J z.toNat hJ (u8_lt z)
      have HX := Lib.hid (xor_lt hJ (u8_lt z))
      have HS := Lib.hid (bk_eight J z)
      have hz := z.toNat_lt
      clear hJ
      generalize J ^^^ z.toNat = X at *
      have i1 : (0 : Int) ≤ (m : Int) := by omega
      have i2 : (m : Int) < (n : Int) := by omega
      go_wp2
      go_loopw [3, 5] (fun v i wq => ∃ k : Nat, k ≤ 8 ∧ i = .int .i64 k ∧ v = .int .u32 (bk k X : Int) ∧ wq = wr) (fun _ i _ => 8 - (intOf i).toNat)
      case atStart => exact ⟨0, by omega, rfl, rfl, rfl⟩
      case round =>
        obtain ⟨k, hk2, rfl, rfl, rfl⟩ := hrel
        by_cases hkl : k < 8
        · have hB := bk_lt k HX.out
          have hb : bk (k + 1) X = bit (bk k X) := rfl
          generalize bk k X = B at *
          have e1 : (B : Int).tmod 2 = ((B % 2 : Nat) : Int) := by rw [Int.tmod_eq_emod_of_nonneg (by omega)]; omega
          have e2 : (B : Int).tdiv 2 = ((B / 2 : Nat) : Int) := by rw [Int.tdiv_eq_ediv_of_nonneg (by omega)]; omega
          have e3 : (B : Int) / 2 = ((B / 2 : Nat) : Int) := by omega
          have k2 : (k : Int) < 8 := by omega
          rcases (show B % 2 = 0 ∨ B % 2 = 1 by omega) with h0 | h0
          · rw [bit_even h0] at hb
            have HB := Lib.hid hb; clear hb
            have h0' : (B : Int) % 2 = 0 := by omega
            clear e1 e2 e3
            go_wp2
            go_roundw
            case rel => exact ⟨k + 1, by omega, by go_num, by rw [HB.out, show ((B / 2 : Nat) : Int) = (B : Int) / 2 by omega], trivial⟩
            case measure => simp [intOf]; omega
          · rw [bit_odd h0] at hb
            have HB := Lib.hid hb; clear hb
            have h0' : (B : Int) % 2 = 1 := by omega
            have hy : bits .xor .u32 ((B : Int) / 2) 3988292384 = ((B / 2 ^^^ 3988292384 : Nat) : Int) := by
              rw [e3]; exact u32_xor_nat (B / 2) 3988292384 (by omega) (by decide)
            clear e1 e2 e3
            go_wp2
            go_roundw
            case rel => exact ⟨k + 1, by omega, by go_num, by rw [HB.out], trivial⟩
            case measure => simp [intOf]; omega
        · obtain rfl : k = 8 := by omega
          rw [HS.out]
          go_wp2
          go_roundw
          case rel => exact ⟨m + 1, by omega, by go_num, by rw [HJ.out], trivial⟩
          case measure => simp [intOf]; omega
    · obtain rfl : m = n := by omega
      rw [show l.take m = l by rw [← HL.out]; exact List.take_length]
      have hx : bits .xor .u32 (crcF 4294967295 l : Int) 4294967295 = (crc l : Int) := u32_xor_nat (crcF 4294967295 l) 4294967295 (crcF_lt _ (by decide)) (by decide)
      rw [show l.take m = l by rw [← HL.out]; exact List.take_length] at hJ
      generalize crcF 4294967295 l = J at *
      go_wp2
      go_ret
      exact ⟨rfl, rfl⟩
end Go.Proofs.YtnbhgnkkedainaaDoor
