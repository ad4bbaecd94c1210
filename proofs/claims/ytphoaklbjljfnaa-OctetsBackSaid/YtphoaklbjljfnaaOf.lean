/- Contracts of the functions of octets that only read: num.Is, folded, unfolded, the closure of decoded, IndexFunc, joined, decoded; and of the document's Is. -/
import Derived.Test.YtphoaklbjljfnaaOm
namespace Go.Proofs.Ytphoaklbjljfnaa
open Go.ChangeShapes Go.WideShapes Go.ChangeAt Go.RowKit

theorem is_any (n : Int) (w : World) : Calls Try.prog 31 #[.int .i64 n] w fun e w' => e = .returned (.bool (isB n)) ∧ w = w' := by
  by_cases h1 : -1099511627776 ≤ n
  · by_cases h2 : n ≤ 1099511627776
    · rw [show isB n = true from isB_iff.2 ⟨h1, h2⟩]
      go_enter Try.func31, Try.ntmps31
      go_wp2
      go_ret
      exact ⟨rfl, rfl⟩
    · rw [show isB n = false from isB_not.2 (by omega)]
      go_enter Try.func31, Try.ntmps31
      go_wp2
      go_ret
      exact ⟨rfl, rfl⟩
  · rw [show isB n = false from isB_not.2 (by omega)]
    go_enter Try.func31, Try.ntmps31
    go_wp2
    go_ret
    exact ⟨rfl, rfl⟩
theorem is_eq (n : Int) (b : Bool) (hb : isB n = b) (w : World) : Calls Try.prog 31 #[.int .i64 n] w fun e w' => e = .returned (.bool b) ∧ w = w' := by subst hb; exact is_any n w
theorem ris_any (n : Int) (w : World) : Calls Try.prog 20 #[.int .i64 n] w fun e w' => e = .returned (.bool (isB n)) ∧ w = w' := by
  by_cases h1 : -1099511627776 ≤ n
  · by_cases h2 : n ≤ 1099511627776
    · rw [show isB n = true from isB_iff.2 ⟨h1, h2⟩]
      go_enter Try.func20, Try.ntmps20
      go_wp2
      go_ret
      exact ⟨rfl, rfl⟩
    · rw [show isB n = false from isB_not.2 (by omega)]
      go_enter Try.func20, Try.ntmps20
      go_wp2
      go_ret
      exact ⟨rfl, rfl⟩
  · have h2 : n ≤ 1099511627776 := by omega
    rw [show isB n = false from isB_not.2 (by omega)]
    go_enter Try.func20, Try.ntmps20
    go_wp2
    go_ret
    exact ⟨rfl, rfl⟩
theorem ris_eq (n : Int) (b : Bool) (hb : isB n = b) (w : World) : Calls Try.prog 20 #[.int .i64 n] w fun e w' => e = .returned (.bool b) ∧ w = w' := by subst hb; exact ris_any n w
theorem folded_any (n : Int) (w : World) : Calls Try.prog 26 #[.int .i64 n] w fun e w' => e = .returned (.int .i64 (fold n : Int)) ∧ w = w' := by
  cases hb : isB n with
  | false =>
    rw [fold_no hb]
    go_enter Try.func26, Try.ntmps26
    go_wp2_with (first
      | (go_at_call 31; (with_reducible refine (is_eq _ _ hb _).mono ?_); rintro e u ⟨rfl, rfl⟩))
    go_ret
    exact ⟨rfl, rfl⟩
  | true =>
    have h2 := isB_iff.1 hb
    obtain ⟨h3, h4⟩ := h2
    by_cases h0 : n < 0
    · rw [fold_neg hb h0]
      go_enter Try.func26, Try.ntmps26
      go_wp2_with (first
        | (go_at_call 31; (with_reducible refine (is_eq _ _ hb _).mono ?_); rintro e u ⟨rfl, rfl⟩))
      go_ret
      exact ⟨rfl, rfl⟩
    · rw [fold_pos hb h0]
      go_enter Try.func26, Try.ntmps26
      go_wp2_with (first
        | (go_at_call 31; (with_reducible refine (is_eq _ _ hb _).mono ?_); rintro e u ⟨rfl, rfl⟩))
      go_ret
      exact ⟨rfl, rfl⟩
theorem unfolded_any (u : Nat) (hu : u < 4398046511104) (w : World) : Calls Try.prog 29 #[.int .i64 (u : Int)] w fun e w' => e = .returned (.int .i64 (unf u)) ∧ w = w' := by
  have e1 : (u : Int).tmod 2 = ((u % 2 : Nat) : Int) := by rw [Int.tmod_eq_emod_of_nonneg (by omega)]; omega
  have e2 : (u : Int).tdiv 2 = ((u / 2 : Nat) : Int) := by rw [Int.tdiv_eq_ediv_of_nonneg (by omega)]; omega
  have b2 : u / 2 < 4398046511104 := by omega
  by_cases h1 : u % 2 = 1
  · rw [show unf u = -1 - ((u / 2 : Nat) : Int) by unfold unf; rw [if_pos h1]]
    have e3 : ((u % 2 : Nat) : Int) = 1 := by omega
    rw [e3] at e1
    generalize u / 2 = q at *
    go_enter Try.func29, Try.ntmps29
    go_wp2
    go_ret
    exact ⟨rfl, rfl⟩
  · rw [show unf u = ((u / 2 : Nat) : Int) by unfold unf; rw [if_neg h1]]
    have e3 : ((u % 2 : Nat) : Int) = 0 := by omega
    rw [e3] at e1
    generalize u / 2 = q at *
    go_enter Try.func29, Try.ntmps29
    go_wp2
    go_ret
    exact ⟨rfl, rfl⟩
theorem fin_any (c : UInt8) (w : World) : Calls Try.prog 28 #[.int .u8 (c.toNat : Int)] w fun e w' => e = .returned (.bool (fin c)) ∧ w = w' := by
  by_cases h : c.toNat < 128
  · rw [show fin c = true by simp [fin, h]]
    have h' : (c.toNat : Int) < 128 := by omega
    generalize c.toNat = z at *
    go_enter Try.func28, Try.ntmps28
    go_wp2
    go_ret
    exact ⟨rfl, rfl⟩
  · rw [show fin c = false by simp [fin, h]]
    have h' : ¬ (c.toNat : Int) < 128 := by omega
    generalize c.toNat = z at *
    go_enter Try.func28, Try.ntmps28
    go_wp2
    go_ret
    exact ⟨rfl, rfl⟩
theorem fin_eq (c : UInt8) (b : Bool) (hb : fin c = b) (w : World) : Calls Try.prog 28 #[.int .u8 (c.toNat : Int)] w fun e w' => e = .returned (.bool b) ∧ w = w' := by subst hb; exact fin_any c w
/-- Where a number's last byte is: -1, if there is none. -/
def ixOf (l : List UInt8) : Int := if l.length ≤ lst l then -1 else (lst l : Int)
theorem idx_any (A : Option Addr) (n c : Nat) (l : List UInt8) (hn : l.length = n) (hm : n ≤ 1048576) (w : World) (hd : Bys w A l) :
    Calls Try.prog 27 #[.slice A n c, .func (.func 28) #[] #[]] w fun e w' => e = .returned (.int .i64 (ixOf l)) ∧ w = w' := by
  have HD := Lib.hid hd; have HL := Lib.hid hn; clear hd hn
  go_enter Try.func27, Try.ntmps27
  go_wp2
  go_loopw [8] (fun i wr => ∃ m : Nat, m ≤ n ∧ i = .int .i64 m ∧ (∀ j, j < m → fin (l.getD j 0) = false) ∧ wr = w) (fun i _ => n - (intOf i).toNat)
  case atStart => exact ⟨0, by omega, rfl, by omega, rfl⟩
  case round =>
    obtain ⟨m, hm2, rfl, hu, rfl⟩ := hrel
    have HU := Lib.hid hu; clear hu
    by_cases hlt : m < n
    · obtain ⟨b, off, rfl, hc⟩ := HD.out.at (k := m) (by rw [HL.out]; exact hlt)
      generalize hz : l.getD m 0 = z at hc
      have HZ := Lib.hid hz; clear hz
      have i1 : (0 : Int) ≤ (m : Int) := by omega
      have i2 : (m : Int) < (n : Int) := by omega
      cases hf : fin z with
      | true =>
        have HF := Lib.hid (show lst l = m from lst_is (by rw [HL.out]; omega) HU.out (fun _ => by rw [HZ.out]; exact hf))
        go_wp2_with (first
          | (go_at_call 28; (with_reducible refine (fin_eq _ _ hf _).mono ?_); rintro e u ⟨rfl, rfl⟩))
        go_ret
        exact ⟨by rw [ixOf, HF.out, if_neg (by rw [HL.out]; omega)]; rfl, rfl⟩
      | false =>
        go_wp2_with (first
          | (go_at_call 28; (with_reducible refine (fin_eq _ _ hf _).mono ?_); rintro e u ⟨rfl, rfl⟩))
        go_roundw
        case rel => exact ⟨m + 1, by omega, by go_num, fun j hj => by
          rcases Nat.lt_or_ge j m with h1 | h1
          · exact HU.out j h1
          · rw [show j = m by omega, HZ.out]; exact hf, trivial⟩
        case measure => simp [intOf]; omega
    · obtain rfl : m = n := by omega
      have HF := Lib.hid (show lst l = m from lst_is (by rw [HL.out]; omega) HU.out (fun h => by rw [HL.out] at h; omega))
      go_wp2
      go_ret
      exact ⟨by rw [ixOf, HF.out, if_pos (by rw [HL.out]; omega)]; rfl, rfl⟩
theorem take_get {l : List UInt8} {m : Nat} (h : m < l.length) : l.take (m + 1) = l.take m ++ [l.getD m 0] := by
  rw [List.take_add_one, List.getElem?_eq_getElem h]; simp [List.getD, h]
theorem joined_any (A : Option Addr) (n c : Nat) (l : List UInt8) (hn : l.length = n) (hm : n ≤ 6) (w : World) (hd : Bys w A l) :
    Calls Try.prog 30 #[.slice A n c] w fun e w' => e = .returned (.int .i64 (jn l : Int)) ∧ w = w' := by
  have HD := Lib.hid hd; have HL := Lib.hid hn; clear hd hn
  go_enter Try.func30, Try.ntmps30
  go_wp2
  go_loopw [3, 8] (fun v i wr => ∃ m : Nat, m ≤ n ∧ i = .int .i64 m ∧ v = .int .i64 (jn (l.take m) : Int) ∧ wr = w) (fun _ i _ => n - (intOf i).toNat)
  case atStart => exact ⟨0, by omega, rfl, by simp [jn], rfl⟩
  case round =>
    obtain ⟨m, hm2, rfl, rfl, rfl⟩ := hrel
    by_cases hlt : m < n
    · obtain ⟨b, off, rfl, hc⟩ := HD.out.at (k := m) (by rw [HL.out]; exact hlt)
      have hj : jn (l.take (m + 1)) = jn (l.take m) + (l.getD m 0).toNat % 128 * 128 ^ m := by
        rw [take_get (by rw [HL.out]; exact hlt), jn_snoc, List.length_take, HL.out, Nat.min_eq_left hm2]
      have hJ : jn (l.take m) < 128 ^ m := by have := jn_lt (l.take m); rwa [List.length_take, HL.out, Nat.min_eq_left hm2] at this
      have hz := (l.getD m 0).toNat_lt
      generalize (l.getD m 0).toNat = z at hc hj hz
      generalize jn (l.take m) = J at hj hJ ⊢
      have HJ := Lib.hid hj; clear hj
      have e1 : (z : Int).tmod 128 = ((z % 128 : Nat) : Int) := by rw [Int.tmod_eq_emod_of_nonneg (by omega)]; omega
      have hq : z % 128 < 128 := by omega
      generalize z % 128 = q at e1 hq HJ
      have i1 : (0 : Int) ≤ (m : Int) := by omega
      have i2 : (m : Int) < (n : Int) := by omega
      have hm5 : m = 0 ∨ m = 1 ∨ m = 2 ∨ m = 3 ∨ m = 4 ∨ m = 5 := by omega
      rcases hm5 with rfl | rfl | rfl | rfl | rfl | rfl
      · simp only [Nat.reducePow] at hJ
        rw [Nat.add_zero] at hc
        simp only [Int.natCast_zero] at *
        go_wp2
        go_roundw
        case rel => exact ⟨1, by omega, by go_num, by rw [HJ.out]; simp only [Nat.reducePow]; go_num, trivial⟩
        case measure => simp [intOf]; omega
      · simp only [Nat.reducePow] at hJ
        simp only [Int.natCast_one] at *
        go_wp2
        go_roundw
        case rel => exact ⟨2, by omega, by go_num, by rw [HJ.out]; simp only [Nat.reducePow]; go_num, trivial⟩
        case measure => simp [intOf]; omega
      · simp only [Nat.reducePow] at hJ
        simp only [show ((2 : Nat) : Int) = 2 from rfl] at *
        go_wp2
        go_roundw
        case rel => exact ⟨3, by omega, by go_num, by rw [HJ.out]; simp only [Nat.reducePow]; go_num, trivial⟩
        case measure => simp [intOf]; omega
      · simp only [Nat.reducePow] at hJ
        simp only [show ((3 : Nat) : Int) = 3 from rfl] at *
        go_wp2
        go_roundw
        case rel => exact ⟨4, by omega, by go_num, by rw [HJ.out]; simp only [Nat.reducePow]; go_num, trivial⟩
        case measure => simp [intOf]; omega
      · simp only [Nat.reducePow] at hJ
        simp only [show ((4 : Nat) : Int) = 4 from rfl] at *
        go_wp2
        go_roundw
        case rel => exact ⟨5, by omega, by go_num, by rw [HJ.out]; simp only [Nat.reducePow]; go_num, trivial⟩
        case measure => simp [intOf]; omega
      · simp only [Nat.reducePow] at hJ
        simp only [show ((5 : Nat) : Int) = 5 from rfl] at *
        go_wp2
        go_roundw
        case rel => exact ⟨6, by omega, by go_num, by rw [HJ.out]; simp only [Nat.reducePow]; go_num, trivial⟩
        case measure => simp [intOf]; omega
    · obtain rfl : m = n := by omega
      rw [show l.take m = l by rw [← HL.out]; exact List.take_length]
      go_wp2
      go_ret
      exact ⟨rfl, rfl⟩
end Go.Proofs.Ytphoaklbjljfnaa
