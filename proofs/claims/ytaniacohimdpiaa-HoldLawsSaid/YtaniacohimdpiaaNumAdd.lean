/- Contracts of num.Is and num.Add: each tells what the plain arithmetic tells, and leaves the world as it was. -/
import Derived.Test.YtaniacohimdpiaaRows
import Derived.Test.YtaniacohimdpiaaPlain
import Derived.WalkKit
import Derived.ProofKit
import Derived.Lib.Hide
namespace Go.Proofs.Ytaniacohimdpiaa
open Go.ChangeShapes Go.WideShapes Go.ChangeAt Go.RowKit

theorem is_any (n : Int) (w : World) : Calls Try.prog 29 #[.int .i64 n] w fun e w' => e = .returned (.bool (isB n)) ∧ w = w' := by
  by_cases h1 : -1099511627776 ≤ n
  · by_cases h2 : n ≤ 1099511627776
    · have e : isB n = true := isB_iff.2 ⟨h1, h2⟩
      rw [e]; clear e
      go_enter Try.func29, Try.ntmps29
      go_wp2
      go_ret
      exact ⟨rfl, rfl⟩
    · have e : isB n = false := isB_not.2 (by omega)
      rw [e]; clear e
      go_enter Try.func29, Try.ntmps29
      go_wp2
      go_ret
      exact ⟨rfl, rfl⟩
  · have e : isB n = false := isB_not.2 (by omega)
    rw [e]; clear e
    go_enter Try.func29, Try.ntmps29
    go_wp2
    go_ret
    exact ⟨rfl, rfl⟩

theorem told_any (n : Int) (w : World) : Calls Try.prog 46 #[.int .i64 n] w fun e w' => e = .returned (.tuple #[.int .i64 (if isB n then n else 0), .int .i64 (if isB n then 0 else 2)]) ∧ w = w' := by
  by_cases h : isB n = true
  · rw [if_pos h, if_pos h]
    go_enter Try.func46, Try.ntmps46
    go_wp2_with ((go_at_call 29; refine (is_any _ _).mono ?_; rintro e w' ⟨rfl, rfl⟩))
    go_ret2
    exact ⟨rfl, rfl⟩
  · rw [if_neg h, if_neg h]
    have h : isB n = false := by simpa using h
    go_enter Try.func46, Try.ntmps46
    go_wp2_with ((go_at_call 29; refine (is_any _ _).mono ?_; rintro e w' ⟨rfl, rfl⟩))
    go_ret2
    exact ⟨rfl, rfl⟩

theorem add_any (a b : Int) (w : World) : Calls Try.prog 35 #[.int .i64 a, .int .i64 b] w fun e w' => e = .returned (.tuple #[.int .i64 (addN a b), .int .i64 (addE a b)]) ∧ w = w' := by
  by_cases ha : isB a = true
  · by_cases hb : isB b = true
    · obtain ⟨a1, a2⟩ := isB_iff.1 ha
      obtain ⟨b1, b2⟩ := isB_iff.1 hb
      by_cases hs : isB (a + b) = true
      · obtain ⟨hE, hN⟩ := addE_ok (okB_iff.2 ⟨ha, hb, hs⟩)
        rw [hE, hN]; clear hE hN
        go_enter Try.func35, Try.ntmps35
        go_wp2_with (first | (go_at_call 29; refine (is_any _ _).mono ?_; rintro e w' ⟨rfl, rfl⟩) | (go_at_call 46; go_in))
        go_ret2
        exact ⟨rfl, rfl⟩
      · have hs : isB (a + b) = false := by simpa using hs
        obtain ⟨hE, hN⟩ := addE_no (okB_r (a := a) (b := b) hs)
        rw [hE, hN]; clear hE hN
        go_enter Try.func35, Try.ntmps35
        go_wp2_with (first | (go_at_call 29; refine (is_any _ _).mono ?_; rintro e w' ⟨rfl, rfl⟩) | (go_at_call 46; go_in))
        go_ret2
        exact ⟨rfl, rfl⟩
    · have hb : isB b = false := by simpa using hb
      obtain ⟨hE, hN⟩ := addE_no (okB_b (a := a) (r := a + b) hb)
      rw [hE, hN]; clear hE hN
      go_enter Try.func35, Try.ntmps35
      go_wp2_with (first | (go_at_call 29; refine (is_any _ _).mono ?_; rintro e w' ⟨rfl, rfl⟩) | (go_at_call 46; go_in))
      go_ret2
      exact ⟨rfl, rfl⟩
  · have ha : isB a = false := by simpa using ha
    obtain ⟨hE, hN⟩ := addE_no (okB_a (b := b) (r := a + b) ha)
    rw [hE, hN]; clear hE hN
    go_enter Try.func35, Try.ntmps35
    go_wp2_with (first | (go_at_call 29; refine (is_any _ _).mono ?_; rintro e w' ⟨rfl, rfl⟩) | (go_at_call 46; go_in))
    go_ret2
    exact ⟨rfl, rfl⟩
end Go.Proofs.Ytaniacohimdpiaa
