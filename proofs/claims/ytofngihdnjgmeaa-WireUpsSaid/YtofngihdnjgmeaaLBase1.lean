/- Contracts of num.Must and of num.Try's deferred call. Contracts of num.Sum and of num.Try at its closure. A contract of num.Sub. Contracts of the document's Is and Add of layer 1. A contract of the document's Sum of layer 1. -/
import Derived.Test.YtofngihdnjgmeaaLBase0
import Derived.LoopTactic
import Derived.Defers
import Derived.Recover
import Derived.Below
import Derived.WalkSmall
namespace Go.Proofs.Ytofngihdnjgmeaa
open Go.ChangeShapes Go.WideShapes Go.ChangeAt Go.RowKit

/-- The panic with which a number that is too great comes up. -/
abbrev errEntry (e : Int) : PanicEntry := { v := .iface 38 (.int .i64 e), recovered := false }

theorem must_ok (n : Int) (w : World) : Calls Try.prog 96 #[.int .i64 n, .int .i64 0] w fun e w' => e = .returned (.int .i64 n) ∧ w = w' := by
  go_enter Try.func96, Try.ntmps96
  go_wp2
  go_ret
  exact ⟨rfl, rfl⟩

theorem must_bad (n x : Int) (w : World) (h : (x != 0) = true) : Calls Try.prog 96 #[.int .i64 n, .int .i64 x] w fun e w' => e = .panicked [errEntry x] ∧ w = w' := by
  go_enter Try.func96, Try.ntmps96
  go_wp2
  exact ⟨rfl, rfl, rfl⟩

theorem assert_yes (v : Value) (w : World) : (Instr.typeAssert (.iface 38 v) 20 38 true).run Try.prog w = .ok (.tuple #[v, .bool true]) w := by kernel_rfl

theorem assert_no (v : Value) (w : World) : (Instr.typeAssert (.iface 9 v) 20 38 true).run Try.prog w = .ok (.tuple #[.int .i64 0, .bool false]) w := by kernel_rfl

theorem carried_ok (x : Int) (w : World) : Calls Try.prog 104 #[.iface 38 (.int .i64 x)] w fun e w' => e = .returned (.int .i64 x) ∧ w = w' := by
  have hy := assert_yes
  have hn := assert_no
  go_enter Try.func104, Try.ntmps104
  go_wp2
  go_ret
  exact ⟨rfl, rfl⟩

/-- Try's own deferred call, where nothing panicked. -/
theorem door_idle (p : Addr) (w : World) :
    CallsD Try.prog 103 #[.pointer (some p)] .returning w fun e u' w' => e = .returned (.tuple #[]) ∧ u' = .returning ∧ w' = w := by
  refine callsD_of_wpS Try.func103 rfl fun c₀ cs hu => ?_
  apply wpS_seq
  apply wpS_region
  simp [wpOpsS, go_sem, recoverD, hu, Try.ntmps103, Exit.thenS]
  refine wpS_of_wp ?_
  change Code.wp _ _ _ ⟨#[.pointer (some p), .nilIface, .nilIface, undef, undef, undef, undef], []⟩ _
  go_wp2
  cases c₀
  simp_all [bodyPostS, results, Try.results103]

/-- Where an error of api's came up: it is laid into the named result. -/
theorem door_err (p : Addr) (v : Value) (x : Int) (older : List PanicEntry) (w : World) (hc : w.cell? p = some v) (hz : w.frozen? p = false) :
    CallsD Try.prog 103 #[.pointer (some p)] (.panicking (errEntry x :: older)) w fun e u' w' =>
      e = .returned (.tuple #[]) ∧ u' = .panicking ({ v := .iface 38 (.int .i64 x), recovered := true } :: older) ∧ w' = w.setCell p (.int .i64 x) := by
  refine callsD_of_wpS Try.func103 rfl fun c₀ cs hu => ?_
  apply wpS_seq
  apply wpS_region
  simp [wpOpsS, go_sem, recoverD, hu, Try.ntmps103, Exit.thenS]
  refine wpS_of_wp ?_
  change Code.wp _ _ _ ⟨#[.pointer (some p), .iface 38 (.int .i64 x), .iface 38 (.int .i64 x), undef, undef, undef, undef], []⟩ _
  clear hu
  go_wp2_with ((go_at_call 104; refine (carried_ok _ _).mono ?_; rintro e w' ⟨rfl, rfl⟩))
  simp [bodyPostS, results, Try.results103]

end Go.Proofs.Ytofngihdnjgmeaa

namespace Go.Proofs.Ytofngihdnjgmeaa
open Go.ChangeShapes Go.WideShapes Go.ChangeAt Go.RowKit

theorem sum1_some (p : Addr) (a : Option Addr) (len cap : Nat) (zs : List Int) (s : Int) (w : World) (hp : w.cell? p = some (.slice a len cap)) (hr : Reads w a len zs) (hs : sumFrom 0 zs = some s) :
    Calls Try.prog 95 #[.pointer (some p)] w fun e w' => e = .returned (.int .i64 s) ∧ w = w' := by
  obtain ⟨hl, hm, hx⟩ := hr
  unfold maxLen at hm
  have HL := Lib.hid hl; clear hl
  have HS := Lib.hid hs; clear hs
  rcases hx with h0 | ⟨b, off, rfl, hc⟩
  · obtain rfl : len = 0 := h0
    go_enter Try.func95, Try.ntmps95
    go_wp2
    go_loop [2, 7] (fun t i => ∃ (k : Nat) (S : Int), k ≤ 0 ∧ i = .int .i64 k ∧ t = .int .i64 S ∧ sumFrom S (zs.drop k) = some s) (fun _ i => 0 - (intOf i).toNat)
    case atStart => exact ⟨0, 0, Nat.zero_le _, rfl, rfl, HS.out⟩
    case round =>
      obtain ⟨k, S, hk, rfl, rfl, hS⟩ := hrel
      have HQ := Lib.hid hS; clear hS
      obtain rfl : k = 0 := by omega
      have hq := HQ.out
      rw [sumFrom_end (by have := HL.out; omega)] at hq
      obtain rfl : S = s := by simpa using hq
      clear hq HQ HS
      go_wp2
      go_ret
      exact ⟨rfl, rfl⟩
  · have HC := Lib.hid hc; clear hc
    go_enter Try.func95, Try.ntmps95
    go_wp2
    go_loop [2, 7] (fun t i => ∃ (k : Nat) (S : Int), k ≤ len ∧ i = .int .i64 k ∧ t = .int .i64 S ∧ sumFrom S (zs.drop k) = some s) (fun _ i => len - (intOf i).toNat)
    case atStart => exact ⟨0, 0, Nat.zero_le _, rfl, rfl, HS.out⟩
    case round =>
      obtain ⟨k, S, hk, rfl, rfl, hS⟩ := hrel
      have HQ := Lib.hid hS; clear hS
      by_cases hlt : k < len
      · have hcell : w.cell? ⟨b, off + k, none⟩ = some (.int .i64 (zs.getD k 0)) := HC.out k hlt
        generalize hz : zs.getD k 0 = z at hcell
        have HZ := Lib.hid hz; clear hz
        have hkl : k < zs.length := by have := HL.out; omega
        have hst := sumFrom_step (S := S) hkl
        rw [HQ.out, HZ.out] at hst
        by_cases hok : okB S z (S + z) = true
        · rw [if_pos hok] at hst
          have HT := Lib.hid hst; clear hst hkl
          obtain ⟨e1, e2⟩ := addE_ok hok
          have HO := Lib.hid hok; clear hok
          go_wp2_with (first | (go_at_call 57; refine (add_any _ _ _).mono ?_; rintro e w' ⟨rfl, rfl⟩; rw [e1, e2]) | (go_at_call 96; refine (must_ok _ _).mono ?_; rintro e w' ⟨rfl, rfl⟩))
          go_round
          case rel => exact ⟨k + 1, S + z, by omega, by go_num, rfl, HT.out.symm⟩
          case measure => simp [intOf]; omega
        · have hok : okB S z (S + z) = false := by simpa using hok
          rw [if_neg (by simp [hok])] at hst
          cases hst
      · have hq := HQ.out
        rw [sumFrom_end (by have := HL.out; omega)] at hq
        obtain rfl : S = s := by simpa using hq
        clear hq HQ HS
        go_wp2
        go_ret
        exact ⟨rfl, rfl⟩

theorem sum1_none (p : Addr) (a : Option Addr) (len cap : Nat) (zs : List Int) (w : World) (hp : w.cell? p = some (.slice a len cap)) (hr : Reads w a len zs) (hs : sumFrom 0 zs = none) :
    Calls Try.prog 95 #[.pointer (some p)] w fun e w' => e = .panicked [errEntry 2] ∧ w = w' := by
  obtain ⟨hl, hm, hx⟩ := hr
  unfold maxLen at hm
  have HL := Lib.hid hl; clear hl
  have HS := Lib.hid hs; clear hs
  rcases hx with h0 | ⟨b, off, rfl, hc⟩
  · obtain rfl : len = 0 := h0
    go_enter Try.func95, Try.ntmps95
    go_wp2
    go_loop [2, 7] (fun t i => ∃ (k : Nat) (S : Int), k ≤ 0 ∧ i = .int .i64 k ∧ t = .int .i64 S ∧ sumFrom S (zs.drop k) = none) (fun _ i => 0 - (intOf i).toNat)
    case atStart => exact ⟨0, 0, Nat.zero_le _, rfl, rfl, HS.out⟩
    case round =>
      obtain ⟨k, S, hk, rfl, rfl, hS⟩ := hrel
      have HQ := Lib.hid hS; clear hS
      obtain rfl : k = 0 := by omega
      have hq := HQ.out
      rw [sumFrom_end (by have := HL.out; omega)] at hq
      cases hq
  · have HC := Lib.hid hc; clear hc
    go_enter Try.func95, Try.ntmps95
    go_wp2
    go_loop [2, 7] (fun t i => ∃ (k : Nat) (S : Int), k ≤ len ∧ i = .int .i64 k ∧ t = .int .i64 S ∧ sumFrom S (zs.drop k) = none) (fun _ i => len - (intOf i).toNat)
    case atStart => exact ⟨0, 0, Nat.zero_le _, rfl, rfl, HS.out⟩
    case round =>
      obtain ⟨k, S, hk, rfl, rfl, hS⟩ := hrel
      have HQ := Lib.hid hS; clear hS
      by_cases hlt : k < len
      · have hcell : w.cell? ⟨b, off + k, none⟩ = some (.int .i64 (zs.getD k 0)) := HC.out k hlt
        generalize hz : zs.getD k 0 = z at hcell
        have HZ := Lib.hid hz; clear hz
        have hkl : k < zs.length := by have := HL.out; omega
        have hst := sumFrom_step (S := S) hkl
        rw [HQ.out, HZ.out] at hst
        by_cases hok : okB S z (S + z) = true
        · rw [if_pos hok] at hst
          have HT := Lib.hid hst; clear hst hkl
          obtain ⟨e1, e2⟩ := addE_ok hok
          have HO := Lib.hid hok; clear hok
          go_wp2_with (first | (go_at_call 57; refine (add_any _ _ _).mono ?_; rintro e w' ⟨rfl, rfl⟩; rw [e1, e2]) | (go_at_call 96; refine (must_ok _ _).mono ?_; rintro e w' ⟨rfl, rfl⟩))
          go_round
          case rel => exact ⟨k + 1, S + z, by omega, by go_num, rfl, HT.out.symm⟩
          case measure => simp [intOf]; omega
        · have hok : okB S z (S + z) = false := by simpa using hok
          obtain ⟨e1, e2⟩ := addE_no hok
          clear hst hok hkl
          go_wp2_with (first | (go_at_call 57; refine (add_any _ _ _).mono ?_; rintro e w' ⟨rfl, rfl⟩; rw [e1, e2]) | (go_at_call 96; refine (must_bad _ _ _ (by decide)).mono ?_; rintro e w' ⟨rfl, rfl⟩))
          exact ⟨rfl, rfl, rfl⟩
      · have hq := HQ.out
        rw [sumFrom_end (by have := HL.out; omega)] at hq
        cases hq

theorem eq_nil (fn : Fn) (first cap : Array Value) (w : World) : (binOp .eql 124 (.func fn first cap) .nilFunc).run Try.prog w = .ok (.bool false) w := by kernel_rfl

theorem try_some (p : Addr) (a : Option Addr) (len cap : Nat) (zs : List Int) (s : Int) (w : World) (hp : w.cell? p = some (.slice a len cap)) (hr : Reads w a len zs) (hs : sumFrom 0 zs = some s) :
    Calls Try.prog 94 #[.func (Fn.func 95) #[] #[.pointer (some p)]] w fun e w' => e = .returned (.tuple #[.int .i64 s, .int .i64 0]) ∧ Below w.heap.size w w' := by
  have hmf : ∀ (fn : Fn) (first cap : Array Value) (w : World), (Instr.makeFunc fn first cap).run Try.prog w = .ok (.func fn first cap) w := fun _ _ _ _ => rfl
  have hen := eq_nil
  have HS := Lib.hid hs; clear hs
  have HR := Lib.hid hr; clear hr
  have HP := Lib.hid hp; clear hp
  have hb1 : Below w.heap.size w (w.alloc (.cells #[.int .i64 0] 38)) := (Below.refl _ _).alloc (Nat.le_refl _) _
  have HB := Lib.hid hb1; clear hb1
  go_enter_defers Try.func94, Try.ntmps94
  go_wp2_with ((go_at_call 95; refine (sum1_some p a len cap zs s _ (by rw [HB.out.cell (cell_lt HP.out)]; exact HP.out) (reads_below HB.out HR.out) HS.out).mono ?_; rintro e w' ⟨rfl, rfl⟩))
  refine leaves_cons (f := 103) (args := #[.pointer (some ⟨w.heap.size, 0, none⟩)]) (by simp) (by simp [go_sem]) ?_
  refine (door_idle ⟨w.heap.size, 0, none⟩ _).mono ?_
  rintro e u' w'' ⟨rfl, rfl, rfl⟩
  simp [Leaves, settle, results, Try.results94, go_sem]
  exact HB.out

theorem try_none (p : Addr) (a : Option Addr) (len cap : Nat) (zs : List Int) (w : World) (hp : w.cell? p = some (.slice a len cap)) (hr : Reads w a len zs) (hs : sumFrom 0 zs = none) :
    Calls Try.prog 94 #[.func (Fn.func 95) #[] #[.pointer (some p)]] w fun e w' => e = .returned (.tuple #[.int .i64 0, .int .i64 2]) ∧ Below w.heap.size w w' := by
  have hmf : ∀ (fn : Fn) (first cap : Array Value) (w : World), (Instr.makeFunc fn first cap).run Try.prog w = .ok (.func fn first cap) w := fun _ _ _ _ => rfl
  have hen := eq_nil
  have HS := Lib.hid hs; clear hs
  have HR := Lib.hid hr; clear hr
  have HP := Lib.hid hp; clear hp
  have hb1 : Below w.heap.size w (w.alloc (.cells #[.int .i64 0] 38)) := (Below.refl _ _).alloc (Nat.le_refl _) _
  have HB := Lib.hid hb1; clear hb1
  go_enter_defers Try.func94, Try.ntmps94
  go_wp2_with ((go_at_call 95; refine (sum1_none p a len cap zs _ (by rw [HB.out.cell (cell_lt HP.out)]; exact HP.out) (reads_below HB.out HR.out) HS.out).mono ?_; rintro e w' ⟨rfl, rfl⟩))
  refine leaves_cons (f := 103) (args := #[.pointer (some ⟨w.heap.size, 0, none⟩)]) (by simp) (by simp [go_sem]) ?_
  refine (door_err ⟨w.heap.size, 0, none⟩ (.int .i64 0) 2 [] _ ?_ ?_).mono ?_
  · simp [go_sem]
  · simp [go_sem]
  rintro e u' w'' ⟨rfl, rfl, rfl⟩
  simp [Leaves, settle, results, Try.results94, go_sem]
  exact (Below.refl _ _).alloc (Nat.le_refl _) _

theorem sum_any (a : Option Addr) (len cap : Nat) (zs : List Int) (w : World) (hr : Reads w a len zs) :
    Calls Try.prog 78 #[.slice a len cap] w fun e w' => e = .returned (.tuple #[.int .i64 (sumN zs), .int .i64 (sumE zs)]) ∧ Below w.heap.size w w' := by
  have hmf : ∀ (fn : Fn) (first cap : Array Value) (w : World), (Instr.makeFunc fn first cap).run Try.prog w = .ok (.func fn first cap) w := fun _ _ _ _ => rfl
  have hb1 : Below w.heap.size w (w.alloc (.cells #[.slice a len cap] 97)) := (Below.refl _ _).alloc (Nat.le_refl _) _
  have HB := Lib.hid hb1; clear hb1
  have HR := Lib.hid hr; clear hr
  cases hs : sumFrom 0 zs with
  | some s =>
    obtain ⟨hN, hE⟩ := sumN_some hs
    rw [hN, hE]; clear hN hE
    have HS := Lib.hid hs; clear hs
    go_enter Try.func78, Try.ntmps78
    go_wp2_with ((go_at_call 94; refine (try_some ⟨w.heap.size, 0, none⟩ a len cap zs s _ (by simp [go_sem]) (reads_below HB.out HR.out) HS.out).mono ?_; rintro e w' ⟨rfl, hb⟩; have HB2 := Lib.hid hb; clear hb))
    go_ret2
    exact ⟨rfl, HB.out.trans (HB2.out.mono (by simp))⟩
  | none =>
    obtain ⟨hN, hE⟩ := sumN_none hs
    rw [hN, hE]; clear hN hE
    have HS := Lib.hid hs; clear hs
    go_enter Try.func78, Try.ntmps78
    go_wp2_with ((go_at_call 94; refine (try_none ⟨w.heap.size, 0, none⟩ a len cap zs _ (by simp [go_sem]) (reads_below HB.out HR.out) HS.out).mono ?_; rintro e w' ⟨rfl, hb⟩; have HB2 := Lib.hid hb; clear hb))
    go_ret2
    exact ⟨rfl, HB.out.trans (HB2.out.mono (by simp))⟩
end Go.Proofs.Ytofngihdnjgmeaa

namespace Go.Proofs.Ytofngihdnjgmeaa
open Go.ChangeShapes Go.WideShapes Go.ChangeAt Go.RowKit

theorem sub_any (a b : Int) (w : World) : Calls Try.prog 50 #[.int .i64 a, .int .i64 b] w fun e w' => e = .returned (.tuple #[.int .i64 (subN a b), .int .i64 (subE a b)]) ∧ w = w' := by
  by_cases ha : isB a = true
  · by_cases hb : isB b = true
    · obtain ⟨a1, a2⟩ := isB_iff.1 ha
      obtain ⟨b1, b2⟩ := isB_iff.1 hb
      by_cases hs : isB (a - b) = true
      · obtain ⟨hE, hN⟩ := subE_ok (okB_iff.2 ⟨ha, hb, hs⟩)
        rw [hE, hN]; clear hE hN
        go_enter Try.func50, Try.ntmps50
        go_wp2_with (first | (go_at_call 37; refine (is_any _ _).mono ?_; rintro e w' ⟨rfl, rfl⟩) | (go_at_call 66; go_in))
        go_ret2
        exact ⟨rfl, rfl⟩
      · have hs : isB (a - b) = false := by simpa using hs
        obtain ⟨hE, hN⟩ := subE_no (okB_r (a := a) (b := b) hs)
        rw [hE, hN]; clear hE hN
        go_enter Try.func50, Try.ntmps50
        go_wp2_with (first | (go_at_call 37; refine (is_any _ _).mono ?_; rintro e w' ⟨rfl, rfl⟩) | (go_at_call 66; go_in))
        go_ret2
        exact ⟨rfl, rfl⟩
    · have hb : isB b = false := by simpa using hb
      obtain ⟨hE, hN⟩ := subE_no (okB_b (a := a) (r := a - b) hb)
      rw [hE, hN]; clear hE hN
      go_enter Try.func50, Try.ntmps50
      go_wp2_with (first | (go_at_call 37; refine (is_any _ _).mono ?_; rintro e w' ⟨rfl, rfl⟩) | (go_at_call 66; go_in))
      go_ret2
      exact ⟨rfl, rfl⟩
  · have ha : isB a = false := by simpa using ha
    obtain ⟨hE, hN⟩ := subE_no (okB_a (b := b) (r := a - b) ha)
    rw [hE, hN]; clear hE hN
    go_enter Try.func50, Try.ntmps50
    go_wp2_with (first | (go_at_call 37; refine (is_any _ _).mono ?_; rintro e w' ⟨rfl, rfl⟩) | (go_at_call 66; go_in))
    go_ret2
    exact ⟨rfl, rfl⟩
end Go.Proofs.Ytofngihdnjgmeaa

namespace Go.Proofs.Ytofngihdnjgmeaa
open Go.ChangeShapes Go.WideShapes Go.ChangeAt Go.RowKit

theorem ris_any (n : Int) (w : World) : Calls Try.prog 23 #[.int .i64 n] w fun e w' => e = .returned (.bool (isB n)) ∧ w = w' := by
  by_cases h1 : -1099511627776 ≤ n
  · by_cases h2 : n ≤ 1099511627776
    · have e : isB n = true := isB_iff.2 ⟨h1, h2⟩
      rw [e]; clear e
      go_enter Try.func23, Try.ntmps23
      go_wp2
      go_ret
      exact ⟨rfl, rfl⟩
    · have e : isB n = false := isB_not.2 (by omega)
      rw [e]; clear e
      go_enter Try.func23, Try.ntmps23
      go_wp2
      go_ret
      exact ⟨rfl, rfl⟩
  · have e : isB n = false := isB_not.2 (by omega)
    rw [e]; clear e
    by_cases h2 : n ≤ 1099511627776
    all_goals
      go_enter Try.func23, Try.ntmps23
      go_wp2
      go_ret
      exact ⟨rfl, rfl⟩

theorem radd_any (a b : Int) (w : World) : Calls Try.prog 45 #[.int .i64 a, .int .i64 b] w fun e w' => e = .returned (.tuple #[.int .i64 (addN a b), .int .i64 (addE a b)]) ∧ w = w' := by
  by_cases ha : isB a = true
  · by_cases hb : isB b = true
    · obtain ⟨a1, a2⟩ := isB_iff.1 ha
      obtain ⟨b1, b2⟩ := isB_iff.1 hb
      by_cases hs : isB (a + b) = true
      · obtain ⟨hE, hN⟩ := addE_ok (okB_iff.2 ⟨ha, hb, hs⟩)
        rw [hE, hN]; clear hE hN
        go_enter Try.func45, Try.ntmps45
        go_wp2_with ((go_at_call 23; refine (ris_any _ _).mono ?_; rintro e w' ⟨rfl, rfl⟩))
        go_ret2
        exact ⟨rfl, rfl⟩
      · have hs : isB (a + b) = false := by simpa using hs
        obtain ⟨hE, hN⟩ := addE_no (okB_r (a := a) (b := b) hs)
        rw [hE, hN]; clear hE hN
        go_enter Try.func45, Try.ntmps45
        go_wp2_with ((go_at_call 23; refine (ris_any _ _).mono ?_; rintro e w' ⟨rfl, rfl⟩))
        go_ret2
        exact ⟨rfl, rfl⟩
    · have hb : isB b = false := by simpa using hb
      obtain ⟨hE, hN⟩ := addE_no (okB_b (a := a) (r := a + b) hb)
      rw [hE, hN]; clear hE hN
      go_enter Try.func45, Try.ntmps45
      go_wp2_with ((go_at_call 23; refine (ris_any _ _).mono ?_; rintro e w' ⟨rfl, rfl⟩))
      go_ret2
      exact ⟨rfl, rfl⟩
  · have ha : isB a = false := by simpa using ha
    obtain ⟨hE, hN⟩ := addE_no (okB_a (b := b) (r := a + b) ha)
    rw [hE, hN]; clear hE hN
    go_enter Try.func45, Try.ntmps45
    go_wp2_with ((go_at_call 23; refine (ris_any _ _).mono ?_; rintro e w' ⟨rfl, rfl⟩))
    go_ret2
    exact ⟨rfl, rfl⟩
end Go.Proofs.Ytofngihdnjgmeaa

namespace Go.Proofs.Ytofngihdnjgmeaa
open Go.ChangeShapes Go.WideShapes Go.ChangeAt Go.RowKit

theorem ret_some {zs : List Int} {S : Int} (h : some S = sumFrom 0 zs) : Ending.returned (.tuple #[.int .i64 S, .int .i64 0]) = .returned (.tuple #[.int .i64 (sumN zs), .int .i64 (sumE zs)]) := by
  obtain ⟨h1, h2⟩ := sumN_some h.symm
  rw [h1, h2]

theorem ret_none {zs : List Int} (h : none = sumFrom 0 zs) : Ending.returned (.tuple #[.int .i64 0, .int .i64 2]) = .returned (.tuple #[.int .i64 (sumN zs), .int .i64 (sumE zs)]) := by
  obtain ⟨h1, h2⟩ := sumN_none h.symm
  rw [h1, h2]

theorem rsum_any (a : Option Addr) (len cap : Nat) (zs : List Int) (w : World) (hr : Reads w a len zs) :
    Calls Try.prog 64 #[.slice a len cap] w fun e w' => e = .returned (.tuple #[.int .i64 (sumN zs), .int .i64 (sumE zs)]) ∧ w = w' := by
  obtain ⟨hl, hm, hx⟩ := hr
  unfold maxLen at hm
  have HL := Lib.hid hl; clear hl
  rcases hx with h0 | ⟨b, off, rfl, hc⟩
  · obtain rfl : len = 0 := h0
    go_enter Try.func64, Try.ntmps64
    go_wp2
    go_loop [4, 5] (fun t i => ∃ (k : Nat) (S : Int), k ≤ 0 ∧ i = .int .i64 k ∧ t = .int .i64 S ∧ sumFrom S (zs.drop k) = sumFrom 0 zs) (fun _ i => 0 - (intOf i).toNat)
    case atStart => exact ⟨0, 0, Nat.zero_le _, rfl, rfl, rfl⟩
    case round =>
      obtain ⟨k, S, hk, rfl, rfl, hS⟩ := hrel
      have HQ := Lib.hid hS; clear hS
      obtain rfl : k = 0 := by omega
      have hq := HQ.out
      rw [sumFrom_end (by have := HL.out; omega)] at hq
      have HF := Lib.hid hq; clear hq HQ
      go_wp2
      go_ret2
      exact ⟨ret_some HF.out, rfl⟩
  · have HC := Lib.hid hc; clear hc
    go_enter Try.func64, Try.ntmps64
    go_wp2
    go_loop [4, 5] (fun t i => ∃ (k : Nat) (S : Int), k ≤ len ∧ i = .int .i64 k ∧ t = .int .i64 S ∧ sumFrom S (zs.drop k) = sumFrom 0 zs) (fun _ i => len - (intOf i).toNat)
    case atStart => exact ⟨0, 0, Nat.zero_le _, rfl, rfl, rfl⟩
    case round =>
      obtain ⟨k, S, hk, rfl, rfl, hS⟩ := hrel
      have HQ := Lib.hid hS; clear hS
      by_cases hlt : k < len
      · have hcell : w.cell? ⟨b, off + k, none⟩ = some (.int .i64 (zs.getD k 0)) := HC.out k hlt
        generalize hz : zs.getD k 0 = z at hcell
        have HZ := Lib.hid hz; clear hz
        have hkl : k < zs.length := by have := HL.out; omega
        have hst := sumFrom_step (S := S) hkl
        rw [HQ.out, HZ.out] at hst
        by_cases hok : okB S z (S + z) = true
        · rw [if_pos hok] at hst
          have HT := Lib.hid hst; clear hst hkl
          obtain ⟨e1, e2⟩ := addE_ok hok
          have HO := Lib.hid hok; clear hok
          go_wp2_with ((go_at_call 45; refine (radd_any _ _ _).mono ?_; rintro e w' ⟨rfl, rfl⟩; rw [e1, e2]))
          go_round
          case rel => exact ⟨k + 1, S + z, by omega, by go_num, rfl, HT.out.symm⟩
          case measure => simp [intOf]; omega
        · have hok : okB S z (S + z) = false := by simpa using hok
          rw [if_neg (by simp [hok])] at hst
          have HT := Lib.hid hst; clear hst hkl
          obtain ⟨e1, e2⟩ := addE_no hok
          clear hok
          go_wp2_with ((go_at_call 45; refine (radd_any _ _ _).mono ?_; rintro e w' ⟨rfl, rfl⟩; rw [e1, e2]))
          go_ret2
          exact ⟨ret_none HT.out.symm, rfl⟩
      · have hq := HQ.out
        rw [sumFrom_end (by have := HL.out; omega)] at hq
        have HF := Lib.hid hq; clear hq HQ
        go_wp2
        go_ret2
        exact ⟨ret_some HF.out, rfl⟩
end Go.Proofs.Ytofngihdnjgmeaa
