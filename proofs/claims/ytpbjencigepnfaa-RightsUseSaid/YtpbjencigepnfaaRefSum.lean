/- A contract of the document's Sum of layer 1. -/
import Derived.Test.YtpbjencigepnfaaRefAdd
import Derived.Test.YtpbjencigepnfaaNumSum
namespace Go.Proofs.Ytpbjencigepnfaa
open Go.ChangeShapes Go.WideShapes Go.ChangeAt Go.RowKit

theorem ret_some {zs : List Int} {S : Int} (h : some S = sumFrom 0 zs) : Ending.returned (.tuple #[.int .i64 S, .int .i64 0]) = .returned (.tuple #[.int .i64 (sumN zs), .int .i64 (sumE zs)]) := by
  obtain ⟨h1, h2⟩ := sumN_some h.symm
  rw [h1, h2]

theorem ret_none {zs : List Int} (h : none = sumFrom 0 zs) : Ending.returned (.tuple #[.int .i64 0, .int .i64 2]) = .returned (.tuple #[.int .i64 (sumN zs), .int .i64 (sumE zs)]) := by
  obtain ⟨h1, h2⟩ := sumN_none h.symm
  rw [h1, h2]

theorem rsum_any (a : Option Addr) (len cap : Nat) (zs : List Int) (w : World) (hr : Reads w a len zs) :
    Calls Try.prog 33 #[.slice a len cap] w fun e w' => e = .returned (.tuple #[.int .i64 (sumN zs), .int .i64 (sumE zs)]) ∧ w = w' := by
  obtain ⟨hl, hm, hx⟩ := hr
  unfold maxLen at hm
  have HL := Lib.hid hl; clear hl
  rcases hx with h0 | ⟨b, off, rfl, hc⟩
  · obtain rfl : len = 0 := h0
    go_enter Try.func33, Try.ntmps33
    go_wp2
    go_loop [4, 5] (fun t i => ∃ (k : Nat) (S : Int), k ≤ 0 ∧ i = .int .i64 k ∧ t = .int .i64 S ∧ sumFrom S (zs.drop k) = sumFrom 0 zs) (fun _ i => 0 - (intOf i).toNat)
    case atStart => exact ⟨0, 0, Nat.zero_le _, rfl, rfl, rfl⟩
    case round =>
      obtain ⟨k, S, hk, rfl, rfl, hS⟩ := hrel
      have HQ := Lib.hid hS; clear hS
      obtain rfl : k = 0 := by omega
      have hq := HQ.out
      rw [sumFrom_end (by have := HL.out; omega)] at hq
      have HF := Lib.hid hq; clear hq HQ
      go_wp2
      go_ret2
      exact ⟨ret_some HF.out, rfl⟩
  · have HC := Lib.hid hc; clear hc
    go_enter Try.func33, Try.ntmps33
    go_wp2
    go_loop [4, 5] (fun t i => ∃ (k : Nat) (S : Int), k ≤ len ∧ i = .int .i64 k ∧ t = .int .i64 S ∧ sumFrom S (zs.drop k) = sumFrom 0 zs) (fun _ i => len - (intOf i).toNat)
    case atStart => exact ⟨0, 0, Nat.zero_le _, rfl, rfl, rfl⟩
    case round =>
      obtain ⟨k, S, hk, rfl, rfl, hS⟩ := hrel
      have HQ := Lib.hid hS; clear hS
      by_cases hlt : k < len
      · have hcell : w.cell? ⟨b, off + k, none⟩ = some (.int .i64 (zs.getD k 0)) := HC.out k hlt
        generalize hz : zs.getD k 0 = z at hcell
        have HZ := Lib.hid hz; clear hz
        have hkl : k < zs.length := by have := HL.out; omega
        have hst := sumFrom_step (S := S) hkl
        rw [HQ.out, HZ.out] at hst
        by_cases hok : okB S z (S + z) = true
        · rw [if_pos hok] at hst
          have HT := Lib.hid hst; clear hst hkl
          obtain ⟨e1, e2⟩ := addE_ok hok
          have HO := Lib.hid hok; clear hok
          go_wp2_with ((go_at_call 50; refine (radd_any _ _ _).mono ?_; rintro e w' ⟨rfl, rfl⟩; rw [e1, e2]))
          go_round
          case rel => exact ⟨k + 1, S + z, by omega, by go_num, rfl, HT.out.symm⟩
          case measure => simp [intOf]; omega
        · have hok : okB S z (S + z) = false := by simpa using hok
          rw [if_neg (by simp [hok])] at hst
          have HT := Lib.hid hst; clear hst hkl
          obtain ⟨e1, e2⟩ := addE_no hok
          clear hok
          go_wp2_with ((go_at_call 50; refine (radd_any _ _ _).mono ?_; rintro e w' ⟨rfl, rfl⟩; rw [e1, e2]))
          go_ret2
          exact ⟨ret_none HT.out.symm, rfl⟩
      · have hq := HQ.out
        rw [sumFrom_end (by have := HL.out; omega)] at hq
        have HF := Lib.hid hq; clear hq HQ
        go_wp2
        go_ret2
        exact ⟨ret_some HF.out, rfl⟩
end Go.Proofs.Ytpbjencigepnfaa
