/- Contracts of num.Must and of num.Try's deferred call. Contracts of num.Sum and of num.Try at its closure. A contract of num.Sub. Contracts of the document's Is and Add of layer 1. A contract of the document's Sum of layer 1. -/
import Derived.Test.YtbaccghnneidgaaGreatLBase0
import Derived.LoopTactic
import Derived.Defers
import Derived.Recover
import Derived.Below
import Derived.WalkSmall
namespace Go.Proofs.YtbaccghnneidgaaGreat
open Go.ChangeShapes Go.WideShapes Go.ChangeAt Go.RowKit

/-- The panic with which a number that is too great comes up. -/
abbrev errEntry (e : Int) : PanicEntry := { v := .iface 36 (.int .i64 e), recovered := false }

theorem must_ok (n : Int) (w : World) : Calls Tryz.prog 85 #[.int .i64 n, .int .i64 0] w fun e w' => e = .returned (.int .i64 n) ∧ w = w' := by
  go_enter Tryz.func85, Tryz.ntmps85
  go_wp2
  go_ret
  exact ⟨rfl, rfl⟩

theorem must_bad (n x : Int) (w : World) (h : (x != 0) = true) : Calls Tryz.prog 85 #[.int .i64 n, .int .i64 x] w fun e w' => e = .panicked [errEntry x] ∧ w = w' := by
  go_enter Tryz.func85, Tryz.ntmps85
  go_wp2
  exact ⟨rfl, rfl, rfl⟩

theorem assert_yes (v : Value) (w : World) : (Instr.typeAssert (.iface 36 v) 20 36 true).run Tryz.prog w = .ok (.tuple #[v, .bool true]) w := by kernel_rfl

theorem assert_no (v : Value) (w : World) : (Instr.typeAssert (.iface 9 v) 20 36 true).run Tryz.prog w = .ok (.tuple #[.int .i64 0, .bool false]) w := by kernel_rfl

theorem carried_ok (x : Int) (w : World) : Calls Tryz.prog 121 #[.iface 36 (.int .i64 x)] w fun e w' => e = .returned (.int .i64 x) ∧ w = w' := by
  have hy := assert_yes
  have hn := assert_no
  go_enter Tryz.func121, Tryz.ntmps121
  go_wp2
  go_ret
  exact ⟨rfl, rfl⟩

/-- Try's own deferred call, where nothing panicked. -/
theorem door_idle (p : Addr) (w : World) :
    CallsD Tryz.prog 120 #[.pointer (some p)] .returning w fun e u' w' => e = .returned (.tuple #[]) ∧ u' = .returning ∧ w' = w := by
  refine callsD_of_wpS Tryz.func120 rfl fun c₀ cs hu => ?_
  apply wpS_seq
  apply wpS_region
  simp [wpOpsS, go_sem, recoverD, hu, Tryz.ntmps120, Exit.thenS]
  refine wpS_of_wp ?_
  change Code.wp _ _ _ ⟨#[.pointer (some p), .nilIface, .nilIface, undef, undef, undef, undef], []⟩ _
  go_wp2
  cases c₀
  simp_all [bodyPostS, results, Tryz.results120]

/-- Where an error of api's came up: it is laid into the named result. -/
theorem door_err (p : Addr) (v : Value) (x : Int) (older : List PanicEntry) (w : World) (hc : w.cell? p = some v) (hz : w.frozen? p = false) :
    CallsD Tryz.prog 120 #[.pointer (some p)] (.panicking (errEntry x :: older)) w fun e u' w' =>
      e = .returned (.tuple #[]) ∧ u' = .panicking ({ v := .iface 36 (.int .i64 x), recovered := true } :: older) ∧ w' = w.setCell p (.int .i64 x) := by
  refine callsD_of_wpS Tryz.func120 rfl fun c₀ cs hu => ?_
  apply wpS_seq
  apply wpS_region
  simp [wpOpsS, go_sem, recoverD, hu, Tryz.ntmps120, Exit.thenS]
  refine wpS_of_wp ?_
  change Code.wp _ _ _ ⟨#[.pointer (some p), .iface 36 (.int .i64 x), .iface 36 (.int .i64 x), undef, undef, undef, undef], []⟩ _
  clear hu
  go_wp2_with ((go_at_call 121; refine (carried_ok _ _).mono ?_; rintro e w' ⟨rfl, rfl⟩))
  simp [bodyPostS, results, Tryz.results120]

end Go.Proofs.YtbaccghnneidgaaGreat

namespace Go.Proofs.YtbaccghnneidgaaGreat
open Go.ChangeShapes Go.WideShapes Go.ChangeAt Go.RowKit

theorem sum1_some (p : Addr) (a : Option Addr) (len cap : Nat) (zs : List Int) (s : Int) (w : World) (hp : w.cell? p = some (.slice a len cap)) (hr : Reads w a len zs) (hs : sumFrom 0 zs = some s) :
    Calls Tryz.prog 122 #[.pointer (some p)] w fun e w' => e = .returned (.int .i64 s) ∧ w = w' := by
  obtain ⟨hl, hm, hx⟩ := hr
  unfold maxLen at hm
  have HL := Lib.hid hl; clear hl
  have HS := Lib.hid hs; clear hs
  rcases hx with h0 | ⟨b, off, rfl, hc⟩
  · obtain rfl : len = 0 := h0
    go_enter Tryz.func122, Tryz.ntmps122
    go_wp2
    go_loop [2, 7] (fun t i => ∃ (k : Nat) (S : Int), k ≤ 0 ∧ i = .int .i64 k ∧ t = .int .i64 S ∧ sumFrom S (zs.drop k) = some s) (fun _ i => 0 - (intOf i).toNat)
    case atStart => exact ⟨0, 0, Nat.zero_le _, rfl, rfl, HS.out⟩
    case round =>
      obtain ⟨k, S, hk, rfl, rfl, hS⟩ := hrel
      have HQ := Lib.hid hS; clear hS
      obtain rfl : k = 0 := by omega
      have hq := HQ.out
      rw [sumFrom_end (by have := HL.out; omega)] at hq
      obtain rfl : S = s := by simpa using hq
      clear hq HQ HS
      go_wp2
      go_ret
      exact ⟨rfl, rfl⟩
  · have HC := Lib.hid hc; clear hc
    go_enter Tryz.func122, Tryz.ntmps122
    go_wp2
    go_loop [2, 7] (fun t i => ∃ (k : Nat) (S : Int), k ≤ len ∧ i = .int .i64 k ∧ t = .int .i64 S ∧ sumFrom S (zs.drop k) = some s) (fun _ i => len - (intOf i).toNat)
    case atStart => exact ⟨0, 0, Nat.zero_le _, rfl, rfl, HS.out⟩
    case round =>
      obtain ⟨k, S, hk, rfl, rfl, hS⟩ := hrel
      have HQ := Lib.hid hS; clear hS
      by_cases hlt : k < len
      · have hcell : w.cell? ⟨b, off + k, none⟩ = some (.int .i64 (zs.getD k 0)) := HC.out k hlt
        generalize hz : zs.getD k 0 = z at hcell
        have HZ := Lib.hid hz; clear hz
        have hkl : k < zs.length := by have := HL.out; omega
        have hst := sumFrom_step (S := S) hkl
        rw [HQ.out, HZ.out] at hst
        by_cases hok : okB S z (S + z) = true
        · rw [if_pos hok] at hst
          have HT := Lib.hid hst; clear hst hkl
          obtain ⟨e1, e2⟩ := addE_ok hok
          have HO := Lib.hid hok; clear hok
          go_wp2_with (first | (go_at_call 108; refine (add_any _ _ _).mono ?_; rintro e w' ⟨rfl, rfl⟩; rw [e1, e2]) | (go_at_call 85; refine (must_ok _ _).mono ?_; rintro e w' ⟨rfl, rfl⟩))
          go_round
          case rel => exact ⟨k + 1, S + z, by omega, by go_num, rfl, HT.out.symm⟩
          case measure => simp [intOf]; omega
        · have hok : okB S z (S + z) = false := by simpa using hok
          rw [if_neg (by simp [hok])] at hst
          cases hst
      · have hq := HQ.out
        rw [sumFrom_end (by have := HL.out; omega)] at hq
        obtain rfl : S = s := by simpa using hq
        clear hq HQ HS
        go_wp2
        go_ret
        exact ⟨rfl, rfl⟩

theorem sum1_none (p : Addr) (a : Option Addr) (len cap : Nat) (zs : List Int) (w : World) (hp : w.cell? p = some (.slice a len cap)) (hr : Reads w a len zs) (hs : sumFrom 0 zs = none) :
    Calls Tryz.prog 122 #[.pointer (some p)] w fun e w' => e = .panicked [errEntry 2] ∧ w = w' := by
  obtain ⟨hl, hm, hx⟩ := hr
  unfold maxLen at hm
  have HL := Lib.hid hl; clear hl
  have HS := Lib.hid hs; clear hs
  rcases hx with h0 | ⟨b, off, rfl, hc⟩
  · obtain rfl : len = 0 := h0
    go_enter Tryz.func122, Tryz.ntmps122
    go_wp2
    go_loop [2, 7] (fun t i => ∃ (k : Nat) (S : Int), k ≤ 0 ∧ i = .int .i64 k ∧ t = .int .i64 S ∧ sumFrom S (zs.drop k) = none) (fun _ i => 0 - (intOf i).toNat)
    case atStart => exact ⟨0, 0, Nat.zero_le _, rfl, rfl, HS.out⟩
    case round =>
      obtain ⟨k, S, hk, rfl, rfl, hS⟩ := hrel
      have HQ := Lib.hid hS; clear hS
      obtain rfl : k = 0 := by omega
      have hq := HQ.out
      rw [sumFrom_end (by have := HL.out; omega)] at hq
      cases hq
  · have HC := Lib.hid hc; clear hc
    go_enter Tryz.func122, Tryz.ntmps122
    go_wp2
    go_loop [2, 7] (fun t i => ∃ (k : Nat) (S : Int), k ≤ len ∧ i = .int .i64 k ∧ t = .int .i64 S ∧ sumFrom S (zs.drop k) = none) (fun _ i => len - (intOf i).toNat)
    case atStart => exact ⟨0, 0, Nat.zero_le _, rfl, rfl, HS.out⟩
    case round =>
      obtain ⟨k, S, hk, rfl, rfl, hS⟩ := hrel
      have HQ := Lib.hid hS; clear hS
      by_cases hlt : k < len
      · have hcell : w.cell? ⟨b, off + k, none⟩ = some (.int .i64 (zs.getD k 0)) := HC.out k hlt
        generalize hz : zs.getD k 0 = z at hcell
        have HZ := Lib.hid hz; clear hz
        have hkl : k < zs.length := by have := HL.out; omega
        have hst := sumFrom_step (S := S) hkl
        rw [HQ.out, HZ.out] at hst
        by_cases hok : okB S z (S + z) = true
        · rw [if_pos hok] at hst
          have HT := Lib.hid hst; clear hst hkl
          obtain ⟨e1, e2⟩ := addE_ok hok
          have HO := Lib.hid hok; clear hok
          go_wp2_with (first | (go_at_call 108; refine (add_any _ _ _).mono ?_; rintro e w' ⟨rfl, rfl⟩; rw [e1, e2]) | (go_at_call 85; refine (must_ok _ _).mono ?_; rintro e w' ⟨rfl, rfl⟩))
          go_round
          case rel => exact ⟨k + 1, S + z, by omega, by go_num, rfl, HT.out.symm⟩
          case measure => simp [intOf]; omega
        · have hok : okB S z (S + z) = false := by simpa using hok
          obtain ⟨e1, e2⟩ := addE_no hok
          clear hst hok hkl
          go_wp2_with (first | (go_at_call 108; refine (add_any _ _ _).mono ?_; rintro e w' ⟨rfl, rfl⟩; rw [e1, e2]) | (go_at_call 85; refine (must_bad _ _ _ (by decide)).mono ?_; rintro e w' ⟨rfl, rfl⟩))
          exact ⟨rfl, rfl, rfl⟩
      · have hq := HQ.out
        rw [sumFrom_end (by have := HL.out; omega)] at hq
        cases hq

theorem eq_nil (fn : Fn) (first cap : Array Value) (w : World) : (binOp .eql 104 (.func fn first cap) .nilFunc).run Tryz.prog w = .ok (.bool false) w := by kernel_rfl

theorem try_some (p : Addr) (a : Option Addr) (len cap : Nat) (zs : List Int) (s : Int) (w : World) (hp : w.cell? p = some (.slice a len cap)) (hr : Reads w a len zs) (hs : sumFrom 0 zs = some s) :
    Calls Tryz.prog 83 #[.func (Fn.func 122) #[] #[.pointer (some p)]] w fun e w' => e = .returned (.tuple #[.int .i64 s, .int .i64 0]) ∧ Below w.heap.size w w' := by
  have hmf : ∀ (fn : Fn) (first cap : Array Value) (w : World), (Instr.makeFunc fn first cap).run Tryz.prog w = .ok (.func fn first cap) w := fun _ _ _ _ => rfl
  have hen := eq_nil
  have HS := Lib.hid hs; clear hs
  have HR := Lib.hid hr; clear hr
  have HP := Lib.hid hp; clear hp
  have hb1 : Below w.heap.size w (w.alloc (.cells #[.int .i64 0] 36)) := (Below.refl _ _).alloc (Nat.le_refl _) _
  have HB := Lib.hid hb1; clear hb1
  go_enter_defers Tryz.func83, Tryz.ntmps83
  go_wp2_with ((go_at_call 122; refine (sum1_some p a len cap zs s _ (by rw [HB.out.cell (cell_lt HP.out)]; exact HP.out) (reads_below HB.out HR.out) HS.out).mono ?_; rintro e w' ⟨rfl, rfl⟩))
  refine leaves_cons (f := 120) (args := #[.pointer (some ⟨w.heap.size, 0, none⟩)]) (by simp) (by simp [go_sem]) ?_
  refine (door_idle ⟨w.heap.size, 0, none⟩ _).mono ?_
  rintro e u' w'' ⟨rfl, rfl, rfl⟩
  simp [Leaves, settle, results, Tryz.results83, go_sem]
  exact HB.out

theorem try_none (p : Addr) (a : Option Addr) (len cap : Nat) (zs : List Int) (w : World) (hp : w.cell? p = some (.slice a len cap)) (hr : Reads w a len zs) (hs : sumFrom 0 zs = none) :
    Calls Tryz.prog 83 #[.func (Fn.func 122) #[] #[.pointer (some p)]] w fun e w' => e = .returned (.tuple #[.int .i64 0, .int .i64 2]) ∧ Below w.heap.size w w' := by
  have hmf : ∀ (fn : Fn) (first cap : Array Value) (w : World), (Instr.makeFunc fn first cap).run Tryz.prog w = .ok (.func fn first cap) w := fun _ _ _ _ => rfl
  have hen := eq_nil
  have HS := Lib.hid hs; clear hs
  have HR := Lib.hid hr; clear hr
  have HP := Lib.hid hp; clear hp
  have hb1 : Below w.heap.size w (w.alloc (.cells #[.int .i64 0] 36)) := (Below.refl _ _).alloc (Nat.le_refl _) _
  have HB := Lib.hid hb1; clear hb1
  go_enter_defers Tryz.func83, Tryz.ntmps83
  go_wp2_with ((go_at_call 122; refine (sum1_none p a len cap zs _ (by rw [HB.out.cell (cell_lt HP.out)]; exact HP.out) (reads_below HB.out HR.out) HS.out).mono ?_; rintro e w' ⟨rfl, rfl⟩))
  refine leaves_cons (f := 120) (args := #[.pointer (some ⟨w.heap.size, 0, none⟩)]) (by simp) (by simp [go_sem]) ?_
  refine (door_err ⟨w.heap.size, 0, none⟩ (.int .i64 0) 2 [] _ ?_ ?_).mono ?_
  · simp [go_sem]
  · simp [go_sem]
  rintro e u' w'' ⟨rfl, rfl, rfl⟩
  simp [Leaves, settle, results, Tryz.results83, go_sem]
  exact (Below.refl _ _).alloc (Nat.le_refl _) _

theorem sum_any (a : Option Addr) (len cap : Nat) (zs : List Int) (w : World) (hr : Reads w a len zs) :
    Calls Tryz.prog 86 #[.slice a len cap] w fun e w' => e = .returned (.tuple #[.int .i64 (sumN zs), .int .i64 (sumE zs)]) ∧ Below w.heap.size w w' := by
  have hmf : ∀ (fn : Fn) (first cap : Array Value) (w : World), (Instr.makeFunc fn first cap).run Tryz.prog w = .ok (.func fn first cap) w := fun _ _ _ _ => rfl
  have hb1 : Below w.heap.size w (w.alloc (.cells #[.slice a len cap] 102)) := (Below.refl _ _).alloc (Nat.le_refl _) _
  have HB := Lib.hid hb1; clear hb1
  have HR := Lib.hid hr; clear hr
  cases hs : sumFrom 0 zs with
  | some s =>
    obtain ⟨hN, hE⟩ := sumN_some hs
    rw [hN, hE]; clear hN hE
    have HS := Lib.hid hs; clear hs
    go_enter Tryz.func86, Tryz.ntmps86
    go_wp2_with ((go_at_call 83; refine (try_some ⟨w.heap.size, 0, none⟩ a len cap zs s _ (by simp [go_sem]) (reads_below HB.out HR.out) HS.out).mono ?_; rintro e w' ⟨rfl, hb⟩; have HB2 := Lib.hid hb; clear hb))
    go_ret2
    exact ⟨rfl, HB.out.trans (HB2.out.mono (by simp))⟩
  | none =>
    obtain ⟨hN, hE⟩ := sumN_none hs
    rw [hN, hE]; clear hN hE
    have HS := Lib.hid hs; clear hs
    go_enter Tryz.func86, Tryz.ntmps86
    go_wp2_with ((go_at_call 83; refine (try_none ⟨w.heap.size, 0, none⟩ a len cap zs _ (by simp [go_sem]) (reads_below HB.out HR.out) HS.out).mono ?_; rintro e w' ⟨rfl, hb⟩; have HB2 := Lib.hid hb; clear hb))
    go_ret2
    exact ⟨rfl, HB.out.trans (HB2.out.mono (by simp))⟩
end Go.Proofs.YtbaccghnneidgaaGreat

namespace Go.Proofs.YtbaccghnneidgaaGreat
open Go.ChangeShapes Go.WideShapes Go.ChangeAt Go.RowKit

theorem sub_any (a b : Int) (w : World) : Calls Tryz.prog 87 #[.int .i64 a, .int .i64 b] w fun e w' => e = .returned (.tuple #[.int .i64 (subN a b), .int .i64 (subE a b)]) ∧ w = w' := by
  by_cases ha : isB a = true
  · by_cases hb : isB b = true
    · obtain ⟨a1, a2⟩ := isB_iff.1 ha
      obtain ⟨b1, b2⟩ := isB_iff.1 hb
      by_cases hs : isB (a - b) = true
      · obtain ⟨hE, hN⟩ := subE_ok (okB_iff.2 ⟨ha, hb, hs⟩)
        rw [hE, hN]; clear hE hN
        go_enter Tryz.func87, Tryz.ntmps87
        go_wp2_with (first | (go_at_call 50; refine (is_any _ _).mono ?_; rintro e w' ⟨rfl, rfl⟩) | (go_at_call 123; go_in))
        go_ret2
        exact ⟨rfl, rfl⟩
      · have hs : isB (a - b) = false := by simpa using hs
        obtain ⟨hE, hN⟩ := subE_no (okB_r (a := a) (b := b) hs)
        rw [hE, hN]; clear hE hN
        go_enter Tryz.func87, Tryz.ntmps87
        go_wp2_with (first | (go_at_call 50; refine (is_any _ _).mono ?_; rintro e w' ⟨rfl, rfl⟩) | (go_at_call 123; go_in))
        go_ret2
        exact ⟨rfl, rfl⟩
    · have hb : isB b = false := by simpa using hb
      obtain ⟨hE, hN⟩ := subE_no (okB_b (a := a) (r := a - b) hb)
      rw [hE, hN]; clear hE hN
      go_enter Tryz.func87, Tryz.ntmps87
      go_wp2_with (first | (go_at_call 50; refine (is_any _ _).mono ?_; rintro e w' ⟨rfl, rfl⟩) | (go_at_call 123; go_in))
      go_ret2
      exact ⟨rfl, rfl⟩
  · have ha : isB a = false := by simpa using ha
    obtain ⟨hE, hN⟩ := subE_no (okB_a (b := b) (r := a - b) ha)
    rw [hE, hN]; clear hE hN
    go_enter Tryz.func87, Tryz.ntmps87
    go_wp2_with (first | (go_at_call 50; refine (is_any _ _).mono ?_; rintro e w' ⟨rfl, rfl⟩) | (go_at_call 123; go_in))
    go_ret2
    exact ⟨rfl, rfl⟩
end Go.Proofs.YtbaccghnneidgaaGreat

namespace Go.Proofs.YtbaccghnneidgaaGreat
open Go.ChangeShapes Go.WideShapes Go.ChangeAt Go.RowKit

end Go.Proofs.YtbaccghnneidgaaGreat

namespace Go.Proofs.YtbaccghnneidgaaGreat
open Go.ChangeShapes Go.WideShapes Go.ChangeAt Go.RowKit

end Go.Proofs.YtbaccghnneidgaaGreat
