/- The contract of the document's Number (layer 8): the bytes of a number, in a row of the call's own. -/
import Derived.Test.YtphoaklbjljfnaaOp
namespace Go.Proofs.Ytphoaklbjljfnaa
open Go.ChangeShapes Go.WideShapes Go.ChangeAt Go.RowKit

theorem ko_lit (w : World) (z : Int) (ch : UInt8) (hz : z = (ch.toNat : Int)) : ∃ A c, (Ending.returned (.slice (some ⟨w.heap.size, 0, none⟩) 1 1) = .returned (.slice A [ch].length c) ∧ [ch].length ≤ c) ∧ KO w (.slice A [ch].length c) [ch] (w.alloc (.cells #[.int .u8 z] 5)) := by
  subst hz
  exact ⟨some ⟨w.heap.size, 0, none⟩, 1, ⟨rfl, by simp⟩, below_new w _, own_new w _ [ch] rfl (by simp [maxLen])⟩
set_option maxRecDepth 100000 in
set_option maxHeartbeats 1000000 in
theorem rnumber_any (n : Int) (w : World) :
    Calls Try.prog 10 #[.int .i64 n] w fun e w' => ∃ A c, (e = .returned (.slice A (enc (fold n)).length c) ∧ (enc (fold n)).length ≤ c) ∧ KO w (.slice A (enc (fold n)).length c) (enc (fold n)) w' := by
  have hF := fold_lt n
  have HK := Lib.hid (KO.start w)
  cases hb : isB n with
  | false =>
    have hF0 := fold_no hb
    rw [hF0]
    have HE := Lib.hid (show (0 : Int) = ((UInt8.ofNat 0).toNat : Int) by rfl)
    rw [enc_lt (show 0 < 128 by decide)]
    go_enter Try.func10, Try.ntmps10
    go_wp2_with (first
      | (go_at_call 20; (with_reducible refine (ris_eq _ _ hb _).mono ?_); rintro e u ⟨rfl, rfl⟩))
    go_ret
    exact ko_lit w _ (UInt8.ofNat 0) HE.out
  | true =>
    obtain ⟨h3, h4⟩ := isB_iff.1 hb
    by_cases h0 : n < 0
    · have hf := fold_neg hb h0
      generalize fold n = F at hf hF ⊢
      have h0' : ¬ (0 : Int) ≤ n := by omega
      have e0 : (-1 - n) * 2 + 1 = (F : Int) := by omega
      have HF := Lib.hid e0
      clear hf e0
      by_cases h1 : F < 128
      · have h1' : (F : Int) < 128 := by have := HF.out; omega
        have h1'' : (-1 - n) * 2 + 1 < 128 := by have := HF.out; omega
        have HE := Lib.hid (show (-1 - n) * 2 + 1 = ((UInt8.ofNat F).toNat : Int) by rw [of_small (by omega)]; exact HF.out)
        rw [enc_lt h1]
        go_enter Try.func10, Try.ntmps10
        go_wp2_with (first
          | (go_at_call 20; (with_reducible refine (ris_eq _ _ hb _).mono ?_); rintro e u ⟨rfl, rfl⟩))
        go_ret
        exact ko_lit w _ (UInt8.ofNat F) HE.out
      · have h1' : ¬ (F : Int) < 128 := by have := HF.out; omega
        have h1'' : ¬ (-1 - n) * 2 + 1 < 128 := by have := HF.out; omega
        go_enter Try.func10, Try.ntmps10
        go_wp2_with (first
          | (go_at_call 20; (with_reducible refine (ris_eq _ _ hb _).mono ?_); rintro e u ⟨rfl, rfl⟩))
        go_loopw [4, 3] (fun v i wr => ∃ (p : List UInt8) (x : Nat), x < 4398046511104 ∧ i = .int .i64 x ∧ p ++ enc x = enc F ∧ KO w v p wr) (fun _ i _ => (intOf i).toNat)
        case atStart => exact ⟨[], F, hF, by first | rfl | (rw [HF.out]) | go_num, rfl, HK.out⟩
        case round =>
          obtain ⟨p, x, hx, rfl, hp, hk⟩ := hrel
          clear HK
          have HK := Lib.hid hk; clear hk
          have HL := Lib.hid (small_len hp hF)
          have HP := Lib.hid hp; clear hp
          by_cases h1 : x < 128
          · have h1' : ¬ (128 : Int) ≤ (x : Int) := by omega
            have e1 : IntKind.u8.wrap (x : Int) = (x : Int) := by rw [IntKind.wrap_u8]; omega
            have HE := Lib.hid (show (x : Int) = ((UInt8.ofNat x).toNat : Int) by rw [of_small (by omega)])
            go_wp2_with (first
              | (refine app_one HK.out (UInt8.ofNat x) HE.out rfl _ _ rfl rfl rfl (by have := HL.out; omega) ?_; intro v' u hk; clear HK; have HK := Lib.hid hk; clear hk))
            go_ret
            have hk := HK.out
            rw [← enc_lt h1, HP.out] at hk
            exact hk.out
          · have h1' : (128 : Int) ≤ (x : Int) := by omega
            have e1 : (x : Int).tmod 128 = ((x % 128 : Nat) : Int) := by rw [Int.tmod_eq_emod_of_nonneg (by omega)]; omega
            have e2 : (x : Int).tdiv 128 = ((x / 128 : Nat) : Int) := by rw [Int.tdiv_eq_ediv_of_nonneg (by omega)]; omega
            have hq : x % 128 < 128 := by have := HF.out; omega
            have HN := Lib.hid (enc_ge h1)
            have HQ := Lib.hid (show x / 128 < 4398046511104 ∧ x / 128 < x by omega)
            have hr : x / 128 < 4398046511104 := by omega
            have HE := Lib.hid (show 128 + ((x % 128 : Nat) : Int) = ((UInt8.ofNat (x % 128 + 128)).toNat : Int) by rw [of_small (by omega)]; omega)
            generalize x % 128 = q at *
            generalize x / 128 = r at *
            have e3 : IntKind.u8.wrap (128 + (q : Int)) = 128 + (q : Int) := by rw [IntKind.wrap_u8]; omega
            go_wp2_with (first
              | (refine app_one HK.out (UInt8.ofNat (q + 128)) HE.out rfl _ _ rfl rfl rfl (by have := HL.out; omega) ?_; intro v' u hk; clear HK; have HK := Lib.hid hk; clear hk))
            go_roundw
            case rel => exact ⟨p ++ [UInt8.ofNat (q + 128)], r, HQ.out.1, by go_num, by rw [← HP.out, HN.out]; simp, HK.out⟩
            case measure => have := HQ.out; simp [intOf]; omega
    · have hf := fold_pos hb h0
      generalize fold n = F at hf hF ⊢
      have h0' : (0 : Int) ≤ n := by omega
      have e0 : n + n = (F : Int) := by omega
      have HF := Lib.hid e0
      clear hf e0
      by_cases h1 : F < 128
      · have h1' : (F : Int) < 128 := by have := HF.out; omega
        have h1'' : n + n < 128 := by have := HF.out; omega
        have HE := Lib.hid (show n + n = ((UInt8.ofNat F).toNat : Int) by rw [of_small (by omega)]; exact HF.out)
        rw [enc_lt h1]
        go_enter Try.func10, Try.ntmps10
        go_wp2_with (first
          | (go_at_call 20; (with_reducible refine (ris_eq _ _ hb _).mono ?_); rintro e u ⟨rfl, rfl⟩))
        go_ret
        exact ko_lit w _ (UInt8.ofNat F) HE.out
      · have h1' : ¬ (F : Int) < 128 := by have := HF.out; omega
        have h1'' : ¬ n + n < 128 := by have := HF.out; omega
        go_enter Try.func10, Try.ntmps10
        go_wp2_with (first
          | (go_at_call 20; (with_reducible refine (ris_eq _ _ hb _).mono ?_); rintro e u ⟨rfl, rfl⟩))
        go_loopw [4, 3] (fun v i wr => ∃ (p : List UInt8) (x : Nat), x < 4398046511104 ∧ i = .int .i64 x ∧ p ++ enc x = enc F ∧ KO w v p wr) (fun _ i _ => (intOf i).toNat)
        case atStart => exact ⟨[], F, hF, by first | rfl | (rw [HF.out]) | go_num, rfl, HK.out⟩
        case round =>
          obtain ⟨p, x, hx, rfl, hp, hk⟩ := hrel
          clear HK
          have HK := Lib.hid hk; clear hk
          have HL := Lib.hid (small_len hp hF)
          have HP := Lib.hid hp; clear hp
          by_cases h1 : x < 128
          · have h1' : ¬ (128 : Int) ≤ (x : Int) := by omega
            have e1 : IntKind.u8.wrap (x : Int) = (x : Int) := by rw [IntKind.wrap_u8]; omega
            have HE := Lib.hid (show (x : Int) = ((UInt8.ofNat x).toNat : Int) by rw [of_small (by omega)])
            go_wp2_with (first
              | (refine app_one HK.out (UInt8.ofNat x) HE.out rfl _ _ rfl rfl rfl (by have := HL.out; omega) ?_; intro v' u hk; clear HK; have HK := Lib.hid hk; clear hk))
            go_ret
            have hk := HK.out
            rw [← enc_lt h1, HP.out] at hk
            exact hk.out
          · have h1' : (128 : Int) ≤ (x : Int) := by omega
            have e1 : (x : Int).tmod 128 = ((x % 128 : Nat) : Int) := by rw [Int.tmod_eq_emod_of_nonneg (by omega)]; omega
            have e2 : (x : Int).tdiv 128 = ((x / 128 : Nat) : Int) := by rw [Int.tdiv_eq_ediv_of_nonneg (by omega)]; omega
            have hq : x % 128 < 128 := by have := HF.out; omega
            have HN := Lib.hid (enc_ge h1)
            have HQ := Lib.hid (show x / 128 < 4398046511104 ∧ x / 128 < x by omega)
            have hr : x / 128 < 4398046511104 := by omega
            have HE := Lib.hid (show 128 + ((x % 128 : Nat) : Int) = ((UInt8.ofNat (x % 128 + 128)).toNat : Int) by rw [of_small (by omega)]; omega)
            generalize x % 128 = q at *
            generalize x / 128 = r at *
            have e3 : IntKind.u8.wrap (128 + (q : Int)) = 128 + (q : Int) := by rw [IntKind.wrap_u8]; omega
            go_wp2_with (first
              | (refine app_one HK.out (UInt8.ofNat (q + 128)) HE.out rfl _ _ rfl rfl rfl (by have := HL.out; omega) ?_; intro v' u hk; clear HK; have HK := Lib.hid hk; clear hk))
            go_roundw
            case rel => exact ⟨p ++ [UInt8.ofNat (q + 128)], r, HQ.out.1, by go_num, by rw [← HP.out, HN.out]; simp, HK.out⟩
            case measure => have := HQ.out; simp [intOf]; omega
end Go.Proofs.Ytphoaklbjljfnaa
