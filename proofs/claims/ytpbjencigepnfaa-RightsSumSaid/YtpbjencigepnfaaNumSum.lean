/- Contracts of num.Sum and of num.Try at its closure. -/
import Derived.Test.YtpbjencigepnfaaNumTry
namespace Go.Proofs.Ytpbjencigepnfaa
open Go.ChangeShapes Go.WideShapes Go.ChangeAt Go.RowKit

/-- A slice of numbers whose elements are 'zs', in some world. -/
def Reads (w : World) (a : Option Addr) (len : Nat) (zs : List Int) : Prop :=
  zs.length = len ∧ len ≤ maxLen ∧ (len = 0 ∨ ∃ b off : Nat, a = some ⟨b, off, none⟩ ∧ ∀ i, i < len → w.cell? ⟨b, off + i, none⟩ = some (.int .i64 (zs.getD i 0)))

theorem sum1_some (p : Addr) (a : Option Addr) (len cap : Nat) (zs : List Int) (s : Int) (w : World) (hp : w.cell? p = some (.slice a len cap)) (hr : Reads w a len zs) (hs : sumFrom 0 zs = some s) :
    Calls Try.prog 46 #[.pointer (some p)] w fun e w' => e = .returned (.int .i64 s) ∧ w = w' := by
  obtain ⟨hl, hm, hx⟩ := hr
  unfold maxLen at hm
  have HL := Lib.hid hl; clear hl
  have HS := Lib.hid hs; clear hs
  rcases hx with h0 | ⟨b, off, rfl, hc⟩
  · obtain rfl : len = 0 := h0
    go_enter Try.func46, Try.ntmps46
    go_wp2
    go_loop [2, 7] (fun t i => ∃ (k : Nat) (S : Int), k ≤ 0 ∧ i = .int .i64 k ∧ t = .int .i64 S ∧ sumFrom S (zs.drop k) = some s) (fun _ i => 0 - (intOf i).toNat)
    case atStart => exact ⟨0, 0, Nat.zero_le _, rfl, rfl, HS.out⟩
    case round =>
      obtain ⟨k, S, hk, rfl, rfl, hS⟩ := hrel
      have HQ := Lib.hid hS; clear hS
      obtain rfl : k = 0 := by omega
      have hq := HQ.out
      rw [sumFrom_end (by have := HL.out; omega)] at hq
      obtain rfl : S = s := by simpa using hq
      clear hq HQ HS
      go_wp2
      go_ret
      exact ⟨rfl, rfl⟩
  · have HC := Lib.hid hc; clear hc
    go_enter Try.func46, Try.ntmps46
    go_wp2
    go_loop [2, 7] (fun t i => ∃ (k : Nat) (S : Int), k ≤ len ∧ i = .int .i64 k ∧ t = .int .i64 S ∧ sumFrom S (zs.drop k) = some s) (fun _ i => len - (intOf i).toNat)
    case atStart => exact ⟨0, 0, Nat.zero_le _, rfl, rfl, HS.out⟩
    case round =>
      obtain ⟨k, S, hk, rfl, rfl, hS⟩ := hrel
      have HQ := Lib.hid hS; clear hS
      by_cases hlt : k < len
      · have hcell : w.cell? ⟨b, off + k, none⟩ = some (.int .i64 (zs.getD k 0)) := HC.out k hlt
        generalize hz : zs.getD k 0 = z at hcell
        have HZ := Lib.hid hz; clear hz
        have hkl : k < zs.length := by have := HL.out; omega
        have hst := sumFrom_step (S := S) hkl
        rw [HQ.out, HZ.out] at hst
        by_cases hok : okB S z (S + z) = true
        · rw [if_pos hok] at hst
          have HT := Lib.hid hst; clear hst hkl
          obtain ⟨e1, e2⟩ := addE_ok hok
          have HO := Lib.hid hok; clear hok
          go_wp2_with (first | (go_at_call 48; refine (add_any _ _ _).mono ?_; rintro e w' ⟨rfl, rfl⟩; rw [e1, e2]) | (go_at_call 47; refine (must_ok _ _).mono ?_; rintro e w' ⟨rfl, rfl⟩))
          go_round
          case rel => exact ⟨k + 1, S + z, by omega, by go_num, rfl, HT.out.symm⟩
          case measure => simp [intOf]; omega
        · have hok : okB S z (S + z) = false := by simpa using hok
          rw [if_neg (by simp [hok])] at hst
          cases hst
      · have hq := HQ.out
        rw [sumFrom_end (by have := HL.out; omega)] at hq
        obtain rfl : S = s := by simpa using hq
        clear hq HQ HS
        go_wp2
        go_ret
        exact ⟨rfl, rfl⟩

theorem sum1_none (p : Addr) (a : Option Addr) (len cap : Nat) (zs : List Int) (w : World) (hp : w.cell? p = some (.slice a len cap)) (hr : Reads w a len zs) (hs : sumFrom 0 zs = none) :
    Calls Try.prog 46 #[.pointer (some p)] w fun e w' => e = .panicked [errEntry 2] ∧ w = w' := by
  obtain ⟨hl, hm, hx⟩ := hr
  unfold maxLen at hm
  have HL := Lib.hid hl; clear hl
  have HS := Lib.hid hs; clear hs
  rcases hx with h0 | ⟨b, off, rfl, hc⟩
  · obtain rfl : len = 0 := h0
    go_enter Try.func46, Try.ntmps46
    go_wp2
    go_loop [2, 7] (fun t i => ∃ (k : Nat) (S : Int), k ≤ 0 ∧ i = .int .i64 k ∧ t = .int .i64 S ∧ sumFrom S (zs.drop k) = none) (fun _ i => 0 - (intOf i).toNat)
    case atStart => exact ⟨0, 0, Nat.zero_le _, rfl, rfl, HS.out⟩
    case round =>
      obtain ⟨k, S, hk, rfl, rfl, hS⟩ := hrel
      have HQ := Lib.hid hS; clear hS
      obtain rfl : k = 0 := by omega
      have hq := HQ.out
      rw [sumFrom_end (by have := HL.out; omega)] at hq
      cases hq
  · have HC := Lib.hid hc; clear hc
    go_enter Try.func46, Try.ntmps46
    go_wp2
    go_loop [2, 7] (fun t i => ∃ (k : Nat) (S : Int), k ≤ len ∧ i = .int .i64 k ∧ t = .int .i64 S ∧ sumFrom S (zs.drop k) = none) (fun _ i => len - (intOf i).toNat)
    case atStart => exact ⟨0, 0, Nat.zero_le _, rfl, rfl, HS.out⟩
    case round =>
      obtain ⟨k, S, hk, rfl, rfl, hS⟩ := hrel
      have HQ := Lib.hid hS; clear hS
      by_cases hlt : k < len
      · have hcell : w.cell? ⟨b, off + k, none⟩ = some (.int .i64 (zs.getD k 0)) := HC.out k hlt
        generalize hz : zs.getD k 0 = z at hcell
        have HZ := Lib.hid hz; clear hz
        have hkl : k < zs.length := by have := HL.out; omega
        have hst := sumFrom_step (S := S) hkl
        rw [HQ.out, HZ.out] at hst
        by_cases hok : okB S z (S + z) = true
        · rw [if_pos hok] at hst
          have HT := Lib.hid hst; clear hst hkl
          obtain ⟨e1, e2⟩ := addE_ok hok
          have HO := Lib.hid hok; clear hok
          go_wp2_with (first | (go_at_call 48; refine (add_any _ _ _).mono ?_; rintro e w' ⟨rfl, rfl⟩; rw [e1, e2]) | (go_at_call 47; refine (must_ok _ _).mono ?_; rintro e w' ⟨rfl, rfl⟩))
          go_round
          case rel => exact ⟨k + 1, S + z, by omega, by go_num, rfl, HT.out.symm⟩
          case measure => simp [intOf]; omega
        · have hok : okB S z (S + z) = false := by simpa using hok
          obtain ⟨e1, e2⟩ := addE_no hok
          clear hst hok hkl
          go_wp2_with (first | (go_at_call 48; refine (add_any _ _ _).mono ?_; rintro e w' ⟨rfl, rfl⟩; rw [e1, e2]) | (go_at_call 47; refine (must_bad _ _ _ (by decide)).mono ?_; rintro e w' ⟨rfl, rfl⟩))
          exact ⟨rfl, rfl, rfl⟩
      · have hq := HQ.out
        rw [sumFrom_end (by have := HL.out; omega)] at hq
        cases hq

theorem cell_lt {w : World} {a : Addr} {v : Value} (h : w.cell? a = some v) : a.block < w.heap.size := by
  rcases Nat.lt_or_ge a.block w.heap.size with h1 | h1
  · exact h1
  · simp [World.cell?, Array.getElem?_eq_none h1] at h

theorem reads_below {w w' : World} (hb : Below w.heap.size w w') {a : Option Addr} {len : Nat} {zs : List Int} (h : Reads w a len zs) : Reads w' a len zs := by
  obtain ⟨h1, h2, h3⟩ := h
  refine ⟨h1, h2, ?_⟩
  rcases h3 with h0 | ⟨b, off, rfl, hc⟩
  · exact .inl h0
  · exact .inr ⟨b, off, rfl, fun i hi => by rw [hb.cell (cell_lt (hc i hi)), hc i hi]⟩

theorem eq_nil (fn : Fn) (first cap : Array Value) (w : World) : (binOp .eql 71 (.func fn first cap) .nilFunc).run Try.prog w = .ok (.bool false) w := by kernel_rfl

theorem try_some (p : Addr) (a : Option Addr) (len cap : Nat) (zs : List Int) (s : Int) (w : World) (hp : w.cell? p = some (.slice a len cap)) (hr : Reads w a len zs) (hs : sumFrom 0 zs = some s) :
    Calls Try.prog 45 #[.func (Fn.func 46) #[] #[.pointer (some p)]] w fun e w' => e = .returned (.tuple #[.int .i64 s, .int .i64 0]) ∧ Below w.heap.size w w' := by
  have hmf : ∀ (fn : Fn) (first cap : Array Value) (w : World), (Instr.makeFunc fn first cap).run Try.prog w = .ok (.func fn first cap) w := fun _ _ _ _ => rfl
  have hen := eq_nil
  have HS := Lib.hid hs; clear hs
  have HR := Lib.hid hr; clear hr
  have HP := Lib.hid hp; clear hp
  have hb1 : Below w.heap.size w (w.alloc (.cells #[.int .i64 0] 27)) := (Below.refl _ _).alloc (Nat.le_refl _) _
  have HB := Lib.hid hb1; clear hb1
  go_enter_defers Try.func45, Try.ntmps45
  go_wp2_with ((go_at_call 46; refine (sum1_some p a len cap zs s _ (by rw [HB.out.cell (cell_lt HP.out)]; exact HP.out) (reads_below HB.out HR.out) HS.out).mono ?_; rintro e w' ⟨rfl, rfl⟩))
  refine leaves_cons (f := 52) (args := #[.pointer (some ⟨w.heap.size, 0, none⟩)]) (by simp) (by simp [go_sem]) ?_
  refine (door_idle ⟨w.heap.size, 0, none⟩ _).mono ?_
  rintro e u' w'' ⟨rfl, rfl, rfl⟩
  simp [Leaves, settle, results, Try.results45, go_sem]
  exact HB.out

theorem try_none (p : Addr) (a : Option Addr) (len cap : Nat) (zs : List Int) (w : World) (hp : w.cell? p = some (.slice a len cap)) (hr : Reads w a len zs) (hs : sumFrom 0 zs = none) :
    Calls Try.prog 45 #[.func (Fn.func 46) #[] #[.pointer (some p)]] w fun e w' => e = .returned (.tuple #[.int .i64 0, .int .i64 2]) ∧ Below w.heap.size w w' := by
  have hmf : ∀ (fn : Fn) (first cap : Array Value) (w : World), (Instr.makeFunc fn first cap).run Try.prog w = .ok (.func fn first cap) w := fun _ _ _ _ => rfl
  have hen := eq_nil
  have HS := Lib.hid hs; clear hs
  have HR := Lib.hid hr; clear hr
  have HP := Lib.hid hp; clear hp
  have hb1 : Below w.heap.size w (w.alloc (.cells #[.int .i64 0] 27)) := (Below.refl _ _).alloc (Nat.le_refl _) _
  have HB := Lib.hid hb1; clear hb1
  go_enter_defers Try.func45, Try.ntmps45
  go_wp2_with ((go_at_call 46; refine (sum1_none p a len cap zs _ (by rw [HB.out.cell (cell_lt HP.out)]; exact HP.out) (reads_below HB.out HR.out) HS.out).mono ?_; rintro e w' ⟨rfl, rfl⟩))
  refine leaves_cons (f := 52) (args := #[.pointer (some ⟨w.heap.size, 0, none⟩)]) (by simp) (by simp [go_sem]) ?_
  refine (door_err ⟨w.heap.size, 0, none⟩ (.int .i64 0) 2 [] _ ?_ ?_).mono ?_
  · simp [go_sem]
  · simp [go_sem]
  rintro e u' w'' ⟨rfl, rfl, rfl⟩
  simp [Leaves, settle, results, Try.results45, go_sem]
  exact (Below.refl _ _).alloc (Nat.le_refl _) _

theorem sum_any (a : Option Addr) (len cap : Nat) (zs : List Int) (w : World) (hr : Reads w a len zs) :
    Calls Try.prog 30 #[.slice a len cap] w fun e w' => e = .returned (.tuple #[.int .i64 (sumN zs), .int .i64 (sumE zs)]) ∧ Below w.heap.size w w' := by
  have hmf : ∀ (fn : Fn) (first cap : Array Value) (w : World), (Instr.makeFunc fn first cap).run Try.prog w = .ok (.func fn first cap) w := fun _ _ _ _ => rfl
  have hb1 : Below w.heap.size w (w.alloc (.cells #[.slice a len cap] 51)) := (Below.refl _ _).alloc (Nat.le_refl _) _
  have HB := Lib.hid hb1; clear hb1
  have HR := Lib.hid hr; clear hr
  cases hs : sumFrom 0 zs with
  | some s =>
    obtain ⟨hN, hE⟩ := sumN_some hs
    rw [hN, hE]; clear hN hE
    have HS := Lib.hid hs; clear hs
    go_enter Try.func30, Try.ntmps30
    go_wp2_with ((go_at_call 45; refine (try_some ⟨w.heap.size, 0, none⟩ a len cap zs s _ (by simp [go_sem]) (reads_below HB.out HR.out) HS.out).mono ?_; rintro e w' ⟨rfl, hb⟩; have HB2 := Lib.hid hb; clear hb))
    go_ret2
    exact ⟨rfl, HB.out.trans (HB2.out.mono (by simp))⟩
  | none =>
    obtain ⟨hN, hE⟩ := sumN_none hs
    rw [hN, hE]; clear hN hE
    have HS := Lib.hid hs; clear hs
    go_enter Try.func30, Try.ntmps30
    go_wp2_with ((go_at_call 45; refine (try_none ⟨w.heap.size, 0, none⟩ a len cap zs _ (by simp [go_sem]) (reads_below HB.out HR.out) HS.out).mono ?_; rintro e w' ⟨rfl, hb⟩; have HB2 := Lib.hid hb; clear hb))
    go_ret2
    exact ⟨rfl, HB.out.trans (HB2.out.mono (by simp))⟩
end Go.Proofs.Ytpbjencigepnfaa
