/- The contract of octets.decoded. -/
import Derived.Test.YtphoaklbjljfnaaOf
namespace Go.Proofs.Ytphoaklbjljfnaa
open Go.ChangeShapes Go.WideShapes Go.ChangeAt Go.RowKit

theorem idx_eq (A : Option Addr) (n c : Nat) (l : List UInt8) (z : Int) (hz : ixOf l = z) (hn : l.length = n) (hm : n ≤ 1048576) (w : World) (hd : Bys w A l) :
    Calls Try.prog 27 #[.slice A n c, .func (.func 28) #[] #[]] w fun e w' => e = .returned (.int .i64 z) ∧ w = w' := by
  subst hz; exact idx_any A n c l hn hm w hd
set_option maxHeartbeats 1000000 in
theorem decoded_any (A : Option Addr) (n c : Nat) (l : List UInt8) (hn : l.length = n) (hm : n ≤ 1048576) (hnc : n ≤ c) (w : World) (hd : Bys w A l) :
    Calls Try.prog 22 #[.slice A n c] w fun e w' => e = .returned (.tuple #[.int .i64 (decN l), .int .i64 (decS l : Int), .int .i64 (decE l)]) ∧ w = w' := by
  have HD := Lib.hid hd; have HL := Lib.hid hn; have HM := Lib.hid hm; clear hd hn
  by_cases h1 : l.length ≤ lst l
  · have HX := Lib.hid (show ixOf l = -1 by rw [ixOf, if_pos h1])
    have hE : decE l = 3 := by rw [decE, if_pos h1]
    rw [show decN l = 0 by rw [decN, hE]; rfl, show decS l = 0 by rw [decS, hE]; rfl, hE]
    clear h1 hE
    go_enter Try.func22, Try.ntmps22
    go_wp2_with (first
      | (go_at_call 27; (with_reducible refine (idx_eq _ _ _ _ _ HX.out HL.out HM.out _ HD.out).mono ?_); rintro e u ⟨rfl, rfl⟩))
    exact bodyPost_ret (results_tmp3 rfl _ _ _) rfl ⟨rfl, rfl⟩
  · have hX : ixOf l = (lst l : Int) := by rw [ixOf, if_neg h1]
    have hE : decE l = if 6 ≤ lst l ∨ (0 < lst l ∧ l.getD (lst l) 0 = 0) then 4 else if isB (unf (jn (l.take (lst l + 1)))) = true then 0 else 2 := by rw [decE, if_neg h1]
    have hN : decN l = if decE l = 0 then unf (jn (l.take (lst l + 1))) else 0 := rfl
    have hS : decS l = if decE l = 0 then lst l + 1 else 0 := rfl
    rw [hN, hS, hE]
    clear hN hS hE
    have hk : lst l < n := by have := HL.out; omega
    generalize lst l = k at *
    have HX := Lib.hid hX; clear hX h1
    obtain ⟨b0, off, rfl, hc⟩ := HD.out.at (k := k) (by rw [HL.out]; exact hk)
    have hz0 : (l.getD k 0 = 0) ↔ (l.getD k 0).toNat = 0 := by
      constructor
      · intro h; rw [h]; rfl
      · intro h; exact UInt8.toNat_inj.1 (by rw [h]; rfl)
    simp only [hz0]
    clear hz0
    generalize (l.getD k 0).toNat = z at *
    have i1 : (0 : Int) ≤ (k : Int) := by omega
    have i2 : (k : Int) < (n : Int) := by omega
    have i3 : ¬ (k : Int) < 0 := by omega
    by_cases h6 : 6 ≤ k
    · have h6' : (6 : Int) ≤ (k : Int) := by omega
      rw [if_pos (Or.inl h6), if_neg (by decide), if_neg (by decide)]
      go_enter Try.func22, Try.ntmps22
      go_wp2_with (first
        | (go_at_call 27; (with_reducible refine (idx_eq _ _ _ _ _ HX.out HL.out HM.out _ HD.out).mono ?_); rintro e u ⟨rfl, rfl⟩))
      exact bodyPost_ret (results_tmp3 rfl _ _ _) rfl ⟨rfl, rfl⟩
    · have h6' : ¬ (6 : Int) ≤ (k : Int) := by omega
      by_cases h0 : 0 < k ∧ z = 0
      · obtain ⟨h01, rfl⟩ := h0
        have h01' : (0 : Int) < (k : Int) := by omega
        rw [if_pos (Or.inr ⟨h01, rfl⟩), if_neg (by decide), if_neg (by decide)]
        go_enter Try.func22, Try.ntmps22
        go_wp2_with (first
          | (go_at_call 27; (with_reducible refine (idx_eq _ _ _ _ _ HX.out HL.out HM.out _ HD.out).mono ?_); rintro e u ⟨rfl, rfl⟩))
        exact bodyPost_ret (results_tmp3 rfl _ _ _) rfl ⟨rfl, rfl⟩
      · rw [if_neg (show ¬ (6 ≤ k ∨ (0 < k ∧ z = 0)) by omega)]
        have HJ := Lib.hid (show jn (l.take (k + 1)) < 4398046511104 from Nat.lt_of_lt_of_le (jn_lt _) (by
          rw [show (4398046511104 : Nat) = 128 ^ 6 by decide]
          exact Nat.pow_le_pow_right (by omega) (by rw [List.length_take]; omega)))
        have e6 : ((k : Int) + 1) ≤ (c : Int) := by omega
        have e7 : (0 : Int) ≤ (k : Int) + 1 := by omega
        have e8 : ((k : Int) + 1).toNat = k + 1 := by omega
        cases hb : isB (unf (jn (l.take (k + 1)))) with
        | false =>
          rw [if_neg (by decide), if_neg (by decide), if_neg (by decide)]
          by_cases hk0 : 0 < k
          · have h01' : (0 : Int) < (k : Int) := by omega
            have hz' : ((z : Int) == 0) = false := by simp only [beq_eq_false_iff_ne]; omega
            go_enter Try.func22, Try.ntmps22
            go_wp2_with (first
              | (go_at_call 27; (with_reducible refine (idx_eq _ _ _ _ _ HX.out HL.out HM.out _ HD.out).mono ?_); rintro e u ⟨rfl, rfl⟩)
              | (go_at_call 30; (refine (joined_any _ _ _ (l.take (k + 1)) (by rw [List.length_take, HL.out]; omega) (by omega) _ (HD.out.take _)).mono ?_); rintro e u ⟨rfl, rfl⟩)
              | (go_at_call 29; (with_reducible refine (unfolded_any _ HJ.out _).mono ?_); rintro e u ⟨rfl, rfl⟩)
              | (go_at_call 31; (with_reducible refine (is_eq _ _ hb _).mono ?_); rintro e u ⟨rfl, rfl⟩))
            exact bodyPost_ret (results_tmp3 rfl _ _ _) rfl ⟨rfl, rfl⟩
          · have h01' : ¬ (0 : Int) < (k : Int) := by omega
            go_enter Try.func22, Try.ntmps22
            go_wp2_with (first
              | (go_at_call 27; (with_reducible refine (idx_eq _ _ _ _ _ HX.out HL.out HM.out _ HD.out).mono ?_); rintro e u ⟨rfl, rfl⟩)
              | (go_at_call 30; (refine (joined_any _ _ _ (l.take (k + 1)) (by rw [List.length_take, HL.out]; omega) (by omega) _ (HD.out.take _)).mono ?_); rintro e u ⟨rfl, rfl⟩)
              | (go_at_call 29; (with_reducible refine (unfolded_any _ HJ.out _).mono ?_); rintro e u ⟨rfl, rfl⟩)
              | (go_at_call 31; (with_reducible refine (is_eq _ _ hb _).mono ?_); rintro e u ⟨rfl, rfl⟩))
            exact bodyPost_ret (results_tmp3 rfl _ _ _) rfl ⟨rfl, rfl⟩
        | true =>
          rw [if_pos rfl, if_pos rfl, if_pos rfl]
          by_cases hk0 : 0 < k
          · have h01' : (0 : Int) < (k : Int) := by omega
            have hz' : ((z : Int) == 0) = false := by simp only [beq_eq_false_iff_ne]; omega
            go_enter Try.func22, Try.ntmps22
            go_wp2_with (first
              | (go_at_call 27; (with_reducible refine (idx_eq _ _ _ _ _ HX.out HL.out HM.out _ HD.out).mono ?_); rintro e u ⟨rfl, rfl⟩)
              | (go_at_call 30; (refine (joined_any _ _ _ (l.take (k + 1)) (by rw [List.length_take, HL.out]; omega) (by omega) _ (HD.out.take _)).mono ?_); rintro e u ⟨rfl, rfl⟩)
              | (go_at_call 29; (with_reducible refine (unfolded_any _ HJ.out _).mono ?_); rintro e u ⟨rfl, rfl⟩)
              | (go_at_call 31; (with_reducible refine (is_eq _ _ hb _).mono ?_); rintro e u ⟨rfl, rfl⟩))
            exact bodyPost_ret (results_tmp3 rfl _ _ _) rfl ⟨rfl, rfl⟩
          · have h01' : ¬ (0 : Int) < (k : Int) := by omega
            go_enter Try.func22, Try.ntmps22
            go_wp2_with (first
              | (go_at_call 27; (with_reducible refine (idx_eq _ _ _ _ _ HX.out HL.out HM.out _ HD.out).mono ?_); rintro e u ⟨rfl, rfl⟩)
              | (go_at_call 30; (refine (joined_any _ _ _ (l.take (k + 1)) (by rw [List.length_take, HL.out]; omega) (by omega) _ (HD.out.take _)).mono ?_); rintro e u ⟨rfl, rfl⟩)
              | (go_at_call 29; (with_reducible refine (unfolded_any _ HJ.out _).mono ?_); rintro e u ⟨rfl, rfl⟩)
              | (go_at_call 31; (with_reducible refine (is_eq _ _ hb _).mono ?_); rintro e u ⟨rfl, rfl⟩))
            exact bodyPost_ret (results_tmp3 rfl _ _ _) rfl ⟨rfl, rfl⟩
end Go.Proofs.Ytphoaklbjljfnaa
