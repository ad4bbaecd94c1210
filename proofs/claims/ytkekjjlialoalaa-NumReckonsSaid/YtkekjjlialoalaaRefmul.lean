/- A contract of the document's own product: it doubles, and tells what the plain product tells. -/
import Derived.Test.YtkekjjlialoalaaNum
import Derived.LoopTactic
import Derived.Lib.Hide
namespace Go.Proofs.Ytkekjjlialoalaa
open Go.ChangeShapes Go.WideShapes Go.ChangeAt Go.RowKit

def MulRel (r : Int) (n y p : Value) : Prop := ∃ N Y P : Int, n = .int .i64 N ∧ y = .int .i64 Y ∧ p = .int .i64 P ∧ 0 ≤ Y ∧ Y ≤ 1099511627776 ∧ -1099511627776 ≤ N ∧ N ≤ 1099511627776 ∧
  (0 < Y → -2199023255552 ≤ P ∧ P ≤ 2199023255552) ∧ N + P * Y = r ∧ ((0 ≤ N ∧ 0 ≤ P) ∨ (N ≤ 0 ∧ P ≤ 0))

theorem start_neg (a b : Int) : (0 : Int) + -a * -b = a * b := by rw [Int.neg_mul_neg]; omega
theorem start_pos (a b : Int) : (0 : Int) + a * b = a * b := by omega

theorem ret_far {a b : Int} (h : isB (a * b) = false) : Ending.returned (.tuple #[.int .i64 0, .int .i64 2]) = .returned (.tuple #[.int .i64 (mulN a b), .int .i64 (mulE a b)]) := by
  obtain ⟨hE, hN⟩ := mulE_no (okB_r (a := a) (b := b) h)
  rw [hE, hN]
theorem ret_near {a b N : Int} (ha : isB a = true) (hb : isB b = true) (n1 : -1099511627776 ≤ N) (n2 : N ≤ 1099511627776) (h : a * b = N) : Ending.returned (.tuple #[.int .i64 N, .int .i64 0]) = .returned (.tuple #[.int .i64 (mulN a b), .int .i64 (mulE a b)]) := by
  obtain ⟨hE, hN⟩ := mulE_ok (okB_iff.2 ⟨ha, hb, (show isB (a * b) = true by rw [h]; exact isB_iff.2 ⟨n1, n2⟩)⟩)
  rw [hE, hN, h]

theorem rmul_any (a b : Int) (w : World) : Calls Try.prog 14 #[.int .i64 a, .int .i64 b] w fun e w' => e = .returned (.tuple #[.int .i64 (mulN a b), .int .i64 (mulE a b)]) ∧ w = w' := by
  by_cases ha : isB a = true
  · by_cases hb : isB b = true
    · obtain ⟨a1, a2⟩ := isB_iff.1 ha
      obtain ⟨b1, b2⟩ := isB_iff.1 hb
      by_cases hneg : b < 0
      all_goals
        go_enter Try.func14, Try.ntmps14
        go_wp2_with ((go_at_call 16; refine (ris_any _ _).mono ?_; rintro e w' ⟨rfl, rfl⟩))
        go_loop [6, 8, 9] (fun n y p => MulRel (a * b) n y p) (fun _ y _ => (intOf y).toNat)
        case atStart => first
          | exact ⟨0, _, _, rfl, rfl, rfl, by omega, by omega, by omega, by omega, fun _ => by omega, start_neg a b, by omega⟩
          | exact ⟨0, _, _, rfl, rfl, rfl, by omega, by omega, by omega, by omega, fun _ => by omega, start_pos a b, by omega⟩
        case round =>
          obtain ⟨N, Y, P, rfl, rfl, rfl, y1, y2, n1, n2, hp, hr, hs⟩ := hrel
          have HR := Lib.hid hr
          clear hr
          by_cases hy : 0 < Y
          · obtain ⟨p1, p2⟩ := hp hy
            clear hp
            by_cases ho' : Y % 2 = 1
            · have hob : (Y % 2 == 1) = true := by simpa using ho'
              have ho := Lib.hid ho'
              clear ho'
              by_cases hN : isB (N + P) = true
              · obtain ⟨n3, n4⟩ := isB_iff.1 hN
                by_cases hk : 0 < Y / 2
                · by_cases hP : isB P = true
                  · obtain ⟨p3, p4⟩ := isB_iff.1 hP
                    go_wp2_with ((go_at_call 16; refine (ris_any _ _).mono ?_; rintro e w' ⟨rfl, rfl⟩))
                    go_round
                    case rel => exact ⟨N + P, Y / 2, P + P, rfl, rfl, rfl, by omega, by omega, by omega, by omega, fun _ => by omega, round_odd HR.out ho.out, by omega⟩
                    case measure => simp [intOf]; omega
                  · have hP : isB P = false := by simpa using hP
                    have hb0 := Lib.hid (show isB (a * b) = false from far_p (round_odd HR.out ho.out) hk (by omega) hP)
                    go_wp2_with ((go_at_call 16; refine (ris_any _ _).mono ?_; rintro e w' ⟨rfl, rfl⟩))
                    go_ret2
                    exact ⟨ret_far hb0.out, rfl⟩
                · have hk' : Y / 2 ≤ 0 := by omega
                  go_wp2_with ((go_at_call 16; refine (ris_any _ _).mono ?_; rintro e w' ⟨rfl, rfl⟩))
                  go_round
                  case rel => exact ⟨N + P, Y / 2, P + P, rfl, rfl, rfl, by omega, by omega, by omega, by omega, fun _ => by omega, round_odd HR.out ho.out, by omega⟩
                  case measure => simp [intOf]; omega
              · have hN : isB (N + P) = false := by simpa using hN
                have hb0 := Lib.hid (show isB (a * b) = false from far_n (round_odd HR.out ho.out) (by omega) (by omega) hN)
                go_wp2_with ((go_at_call 16; refine (ris_any _ _).mono ?_; rintro e w' ⟨rfl, rfl⟩))
                go_ret2
                exact ⟨ret_far hb0.out, rfl⟩
            · have hob : (Y % 2 == 1) = false := by simpa using ho'
              have ho := Lib.hid ho'
              clear ho'
              have hN : isB N = true := isB_iff.2 ⟨n1, n2⟩
              by_cases hk : 0 < Y / 2
              · by_cases hP : isB P = true
                · obtain ⟨p3, p4⟩ := isB_iff.1 hP
                  go_wp2_with ((go_at_call 16; refine (ris_any _ _).mono ?_; rintro e w' ⟨rfl, rfl⟩))
                  go_round
                  case rel => exact ⟨N, Y / 2, P + P, rfl, rfl, rfl, by omega, by omega, by omega, by omega, fun _ => by omega, round_even HR.out ho.out y1, by omega⟩
                  case measure => simp [intOf]; omega
                · have hP : isB P = false := by simpa using hP
                  have hb0 := Lib.hid (show isB (a * b) = false from far_p (round_even HR.out ho.out y1) hk hs hP)
                  go_wp2_with ((go_at_call 16; refine (ris_any _ _).mono ?_; rintro e w' ⟨rfl, rfl⟩))
                  go_ret2
                  exact ⟨ret_far hb0.out, rfl⟩
              · have hk' : Y / 2 ≤ 0 := by omega
                go_wp2_with ((go_at_call 16; refine (ris_any _ _).mono ?_; rintro e w' ⟨rfl, rfl⟩))
                go_round
                case rel => exact ⟨N, Y / 2, P + P, rfl, rfl, rfl, by omega, by omega, by omega, by omega, fun _ => by omega, round_even HR.out ho.out y1, by omega⟩
                case measure => simp [intOf]; omega
          · have hY : Y = 0 := by omega
            have hab : a * b = N := by have h := HR.out; rw [hY, Int.mul_zero] at h; omega
            have HA := Lib.hid hab
            clear hp HR hs hab
            subst hY
            go_wp2
            go_ret2
            exact ⟨ret_near ha hb n1 n2 HA.out, rfl⟩
    · have hb : isB b = false := by simpa using hb
      obtain ⟨hE, hN⟩ := mulE_no (okB_b (a := a) (r := a * b) hb)
      rw [hE, hN]; clear hE hN
      go_enter Try.func14, Try.ntmps14
      go_wp2_with ((go_at_call 16; refine (ris_any _ _).mono ?_; rintro e w' ⟨rfl, rfl⟩))
      go_ret2
      exact ⟨rfl, rfl⟩
  · have ha : isB a = false := by simpa using ha
    obtain ⟨hE, hN⟩ := mulE_no (okB_a (b := b) (r := a * b) ha)
    rw [hE, hN]; clear hE hN
    go_enter Try.func14, Try.ntmps14
    go_wp2_with ((go_at_call 16; refine (ris_any _ _).mono ?_; rintro e w' ⟨rfl, rfl⟩))
    go_ret2
    exact ⟨rfl, rfl⟩
end Go.Proofs.Ytkekjjlialoalaa
