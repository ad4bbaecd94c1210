/- Contracts of num.Try at num.Sum's own closure, of num.Sum, of the document's Sum, and of the law's 'awake'. -/
import Derived.Test.YtkekjjlialoalaaTry
namespace Go.Proofs.Ytkekjjlialoalaa
open Go.ChangeShapes Go.WideShapes Go.ChangeAt Go.RowKit

theorem cell_lt {w : World} {a : Addr} {v : Value} (h : w.cell? a = some v) : a.block < w.heap.size := by
  rcases Nat.lt_or_ge a.block w.heap.size with h1 | h1
  · exact h1
  · simp [World.cell?, Array.getElem?_eq_none h1] at h

theorem reads_below {w w' : World} (hb : Below w.heap.size w w') {a : Option Addr} {len : Nat} {zs : List Int} (h : Reads w a len zs) : Reads w' a len zs := by
  obtain ⟨h1, h2, h3⟩ := h
  refine ⟨h1, h2, ?_⟩
  rcases h3 with h0 | ⟨b, off, rfl, hc⟩
  · exact .inl h0
  · exact .inr ⟨b, off, rfl, fun i hi => by rw [hb.cell (cell_lt (hc i hi)), hc i hi]⟩

theorem eq_nil (fn : Fn) (first cap : Array Value) (w : World) : (binOp .eql 40 (.func fn first cap) .nilFunc).run Try.prog w = .ok (.bool false) w := by kernel_rfl

theorem try_some (p : Addr) (a : Option Addr) (len cap : Nat) (zs : List Int) (s : Int) (w : World) (hp : w.cell? p = some (.slice a len cap)) (hr : Reads w a len zs) (hs : sumFrom 0 zs = some s) :
    Calls Try.prog 21 #[.func (Fn.func 24) #[] #[.pointer (some p)]] w fun e w' => e = .returned (.tuple #[.int .i64 s, .int .i64 0]) ∧ Below w.heap.size w w' := by
  have hmf : ∀ (fn : Fn) (first cap : Array Value) (w : World), (Instr.makeFunc fn first cap).run Try.prog w = .ok (.func fn first cap) w := fun _ _ _ _ => rfl
  have hen := eq_nil
  have HS := Lib.hid hs; clear hs
  have HR := Lib.hid hr; clear hr
  have HP := Lib.hid hp; clear hp
  have hb1 : Below w.heap.size w (w.alloc (.cells #[.int .i64 0] 22)) := (Below.refl _ _).alloc (Nat.le_refl _) _
  have HB := Lib.hid hb1; clear hb1
  go_enter_defers Try.func21, Try.ntmps21
  go_wp2_with ((go_at_call 24; refine (sum1_some p a len cap zs s _ (by rw [HB.out.cell (cell_lt HP.out)]; exact HP.out) (reads_below HB.out HR.out) HS.out).mono ?_; rintro e w' ⟨rfl, rfl⟩))
  refine leaves_cons (f := 28) (args := #[.pointer (some ⟨w.heap.size, 0, none⟩)]) (by simp) (by simp [go_sem]) ?_
  refine (door_idle ⟨w.heap.size, 0, none⟩ _).mono ?_
  rintro e u' w'' ⟨rfl, rfl, rfl⟩
  simp [Leaves, settle, results, Try.results21, go_sem]
  exact HB.out

theorem try_none (p : Addr) (a : Option Addr) (len cap : Nat) (zs : List Int) (w : World) (hp : w.cell? p = some (.slice a len cap)) (hr : Reads w a len zs) (hs : sumFrom 0 zs = none) :
    Calls Try.prog 21 #[.func (Fn.func 24) #[] #[.pointer (some p)]] w fun e w' => e = .returned (.tuple #[.int .i64 0, .int .i64 2]) ∧ Below w.heap.size w w' := by
  have hmf : ∀ (fn : Fn) (first cap : Array Value) (w : World), (Instr.makeFunc fn first cap).run Try.prog w = .ok (.func fn first cap) w := fun _ _ _ _ => rfl
  have hen := eq_nil
  have HS := Lib.hid hs; clear hs
  have HR := Lib.hid hr; clear hr
  have HP := Lib.hid hp; clear hp
  have hb1 : Below w.heap.size w (w.alloc (.cells #[.int .i64 0] 22)) := (Below.refl _ _).alloc (Nat.le_refl _) _
  have HB := Lib.hid hb1; clear hb1
  go_enter_defers Try.func21, Try.ntmps21
  go_wp2_with ((go_at_call 24; refine (sum1_none p a len cap zs _ (by rw [HB.out.cell (cell_lt HP.out)]; exact HP.out) (reads_below HB.out HR.out) HS.out).mono ?_; rintro e w' ⟨rfl, rfl⟩))
  refine leaves_cons (f := 28) (args := #[.pointer (some ⟨w.heap.size, 0, none⟩)]) (by simp) (by simp [go_sem]) ?_
  refine (door_err ⟨w.heap.size, 0, none⟩ (.int .i64 0) 2 [] _ ?_ ?_).mono ?_
  · simp [go_sem]
  · simp [go_sem]
  rintro e u' w'' ⟨rfl, rfl, rfl⟩
  simp [Leaves, settle, results, Try.results21, go_sem]
  exact (Below.refl _ _).alloc (Nat.le_refl _) _

theorem sum_any (a : Option Addr) (len cap : Nat) (zs : List Int) (w : World) (hr : Reads w a len zs) :
    Calls Try.prog 18 #[.slice a len cap] w fun e w' => e = .returned (.tuple #[.int .i64 (sumN zs), .int .i64 (sumE zs)]) ∧ Below w.heap.size w w' := by
  have hmf : ∀ (fn : Fn) (first cap : Array Value) (w : World), (Instr.makeFunc fn first cap).run Try.prog w = .ok (.func fn first cap) w := fun _ _ _ _ => rfl
  have hb1 : Below w.heap.size w (w.alloc (.cells #[.slice a len cap] 28)) := (Below.refl _ _).alloc (Nat.le_refl _) _
  have HB := Lib.hid hb1; clear hb1
  have HR := Lib.hid hr; clear hr
  cases hs : sumFrom 0 zs with
  | some s =>
    obtain ⟨hN, hE⟩ := sumN_some hs
    rw [hN, hE]; clear hN hE
    have HS := Lib.hid hs; clear hs
    go_enter Try.func18, Try.ntmps18
    go_wp2_with ((go_at_call 21; refine (try_some ⟨w.heap.size, 0, none⟩ a len cap zs s _ (by simp [go_sem]) (reads_below HB.out HR.out) HS.out).mono ?_; rintro e w' ⟨rfl, hb⟩; have HB2 := Lib.hid hb; clear hb))
    go_ret2
    exact ⟨rfl, HB.out.trans (HB2.out.mono (by simp))⟩
  | none =>
    obtain ⟨hN, hE⟩ := sumN_none hs
    rw [hN, hE]; clear hN hE
    have HS := Lib.hid hs; clear hs
    go_enter Try.func18, Try.ntmps18
    go_wp2_with ((go_at_call 21; refine (try_none ⟨w.heap.size, 0, none⟩ a len cap zs _ (by simp [go_sem]) (reads_below HB.out HR.out) HS.out).mono ?_; rintro e w' ⟨rfl, hb⟩; have HB2 := Lib.hid hb; clear hb))
    go_ret2
    exact ⟨rfl, HB.out.trans (HB2.out.mono (by simp))⟩

theorem reads_pair (w : World) : Reads (w.alloc (.cells #[.int .i64 3, .int .i64 4] 3)) (some ⟨w.heap.size, 0, none⟩) 2 [3, 4] := by
  refine ⟨rfl, by decide, .inr ⟨_, _, rfl, fun i hi => ?_⟩⟩
  match i, hi with
  | 0, _ => simp [go_sem]
  | 1, _ => simp [go_sem]

theorem awake_any (w : World) : Calls Try.prog 17 #[] w fun e w' => e = .returned (.bool true) ∧ Below w.heap.size w w' := by
  have hE : addE 1099511627776 1 = 2 := by decide
  have hN : addN 1099511627776 1 = 0 := by decide
  have hI : isB (-1099511627776) = true := by decide
  have hsN : sumN [3, 4] = 7 := by decide
  have hsE : sumE [3, 4] = 0 := by decide
  have hb1 : Below w.heap.size w (w.alloc (.cells #[.int .i64 3, .int .i64 4] 3)) := (Below.refl _ _).alloc (Nat.le_refl _) _
  have HB := Lib.hid hb1; clear hb1
  go_enter Try.func17, Try.ntmps17
  go_wp2_with (first | (go_at_call 9; refine (add_any _ _ _).mono ?_; rintro e w' ⟨rfl, rfl⟩) | (go_at_call 15; refine (is_any _ _).mono ?_; rintro e w' ⟨rfl, rfl⟩) | (go_at_call 18; refine (sum_any _ _ _ _ _ (reads_pair w)).mono ?_; rintro e w' ⟨rfl, hb⟩; have HB2 := Lib.hid hb; clear hb))
  go_ret
  exact ⟨rfl, HB.out.trans (HB2.out.mono (by simp))⟩
end Go.Proofs.Ytkekjjlialoalaa
