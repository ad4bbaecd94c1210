/- Contracts of num.Try at the law's own closure, of num.Try of no function, and of the law's 'tried': what is told is told, an error comes back as one, any other panic goes on. -/
import Derived.Test.YtkekjjlialoalaaSum
namespace Go.Proofs.Ytkekjjlialoalaa
open Go.ChangeShapes Go.WideShapes Go.ChangeAt Go.RowKit

abbrev otherEntry (r : Bool) : PanicEntry := { v := .iface 9 (.string { data := #[111, 116, 104, 101, 114] }), recovered := r }

theorem two_other (p0 p1 p2 : Addr) (w : World) (h0 : w.cell? p0 = some (.bool true)) :
    Calls Try.prog 27 #[.pointer (some p0), .pointer (some p1), .pointer (some p2)] w fun e w' => e = .panicked [otherEntry false] ∧ w = w' := by
  go_enter Try.func27, Try.ntmps27
  go_wp2
  exact ⟨rfl, rfl, rfl⟩

theorem two_err (p0 p1 p2 : Addr) (n x : Int) (w : World) (h0 : w.cell? p0 = some (.bool false)) (h1 : w.cell? p1 = some (.int .i64 n)) (h2 : w.cell? p2 = some (.int .i64 x)) (hx : (x != 0) = true) :
    Calls Try.prog 27 #[.pointer (some p0), .pointer (some p1), .pointer (some p2)] w fun e w' => e = .panicked [errEntry x] ∧ w = w' := by
  go_enter Try.func27, Try.ntmps27
  go_wp2_with ((go_at_call 25; (with_reducible refine (must_bad _ _ _ hx).mono ?_); rintro e w' ⟨rfl, rfl⟩))
  exact ⟨rfl, rfl, rfl⟩

theorem two_ok (p0 p1 p2 : Addr) (n : Int) (w : World) (h0 : w.cell? p0 = some (.bool false)) (h1 : w.cell? p1 = some (.int .i64 n)) (h2 : w.cell? p2 = some (.int .i64 0)) :
    Calls Try.prog 27 #[.pointer (some p0), .pointer (some p1), .pointer (some p2)] w fun e w' => e = .returned (.int .i64 n) ∧ w = w' := by
  go_enter Try.func27, Try.ntmps27
  go_wp2_with ((go_at_call 25; (with_reducible refine (must_ok _ _).mono ?_); rintro e w' ⟨rfl, rfl⟩))
  go_ret
  exact ⟨rfl, rfl⟩

theorem cell_new {w : World} {p : Addr} {v : Value} (h : w.cell? p = some v) (o : Obj) : (w.alloc o).cell? p = some v := by
  rw [((Below.refl w.heap.size w).alloc (Nat.le_refl _) o).cell (cell_lt h)]; exact h

theorem try_ok (p0 p1 p2 : Addr) (n : Int) (w : World) (h0 : w.cell? p0 = some (.bool false)) (h1 : w.cell? p1 = some (.int .i64 n)) (h2 : w.cell? p2 = some (.int .i64 0)) :
    Calls Try.prog 21 #[.func (Fn.func 27) #[] #[.pointer (some p0), .pointer (some p1), .pointer (some p2)]] w fun e w' => e = .returned (.tuple #[.int .i64 n, .int .i64 0]) ∧ Below w.heap.size w w' := by
  have hmf : ∀ (fn : Fn) (first cap : Array Value) (w : World), (Instr.makeFunc fn first cap).run Try.prog w = .ok (.func fn first cap) w := fun _ _ _ _ => rfl
  have hen := eq_nil
  have H0 := Lib.hid (cell_new h0); clear h0
  have H1 := Lib.hid (cell_new h1); clear h1
  have H2 := Lib.hid (cell_new h2); clear h2
  go_enter_defers Try.func21, Try.ntmps21
  go_wp2_with ((go_at_call 27; (with_reducible refine (two_ok p0 p1 p2 n _ (H0.out _) (H1.out _) (H2.out _)).mono ?_); rintro e w' ⟨rfl, rfl⟩))
  refine leaves_cons (f := 28) (args := #[.pointer (some ⟨w.heap.size, 0, none⟩)]) (by simp) (by simp [go_sem]) ?_
  refine (door_idle ⟨w.heap.size, 0, none⟩ _).mono ?_
  rintro e u' w'' ⟨rfl, rfl, rfl⟩
  simp [Leaves, settle, results, Try.results21, go_sem]
  exact (Below.refl _ _).alloc (Nat.le_refl _) _

theorem try_err (p0 p1 p2 : Addr) (n x : Int) (w : World) (h0 : w.cell? p0 = some (.bool false)) (h1 : w.cell? p1 = some (.int .i64 n)) (h2 : w.cell? p2 = some (.int .i64 x)) (hx : (x != 0) = true) :
    Calls Try.prog 21 #[.func (Fn.func 27) #[] #[.pointer (some p0), .pointer (some p1), .pointer (some p2)]] w fun e w' => e = .returned (.tuple #[.int .i64 0, .int .i64 x]) ∧ Below w.heap.size w w' := by
  have hmf : ∀ (fn : Fn) (first cap : Array Value) (w : World), (Instr.makeFunc fn first cap).run Try.prog w = .ok (.func fn first cap) w := fun _ _ _ _ => rfl
  have hen := eq_nil
  have H0 := Lib.hid (cell_new h0); clear h0
  have H1 := Lib.hid (cell_new h1); clear h1
  have H2 := Lib.hid (cell_new h2); clear h2
  have HX := Lib.hid hx; clear hx
  go_enter_defers Try.func21, Try.ntmps21
  go_wp2_with ((go_at_call 27; (with_reducible refine (two_err p0 p1 p2 n x _ (H0.out _) (H1.out _) (H2.out _) HX.out).mono ?_); rintro e w' ⟨rfl, rfl⟩))
  refine leaves_cons (f := 28) (args := #[.pointer (some ⟨w.heap.size, 0, none⟩)]) (by simp) (by simp [go_sem]) ?_
  refine (door_err ⟨w.heap.size, 0, none⟩ (.int .i64 0) x [] _ ?_ ?_).mono ?_
  · simp [go_sem]
  · simp [go_sem]
  rintro e u' w'' ⟨rfl, rfl, rfl⟩
  simp [Leaves, settle, results, Try.results21, go_sem]
  exact (Below.refl _ _).alloc (Nat.le_refl _) _

theorem try_other (p0 p1 p2 : Addr) (w : World) (h0 : w.cell? p0 = some (.bool true)) :
    Calls Try.prog 21 #[.func (Fn.func 27) #[] #[.pointer (some p0), .pointer (some p1), .pointer (some p2)]] w fun e w' => e = .panicked [otherEntry false, otherEntry true] ∧ Below w.heap.size w w' := by
  have hmf : ∀ (fn : Fn) (first cap : Array Value) (w : World), (Instr.makeFunc fn first cap).run Try.prog w = .ok (.func fn first cap) w := fun _ _ _ _ => rfl
  have hen := eq_nil
  have H0 := Lib.hid (cell_new h0); clear h0
  go_enter_defers Try.func21, Try.ntmps21
  go_wp2_with ((go_at_call 27; (with_reducible refine (two_other p0 p1 p2 _ (H0.out _)).mono ?_); rintro e w' ⟨rfl, rfl⟩))
  refine leaves_cons (f := 28) (args := #[.pointer (some ⟨w.heap.size, 0, none⟩)]) (by simp) (by simp [go_sem]) ?_
  refine (door_other ⟨w.heap.size, 0, none⟩ _ [] _).mono ?_
  rintro e u' w'' ⟨rfl, rfl, rfl⟩
  simp [Leaves, settle, raised, results, Try.results21, go_sem]
  exact (Below.refl _ _).alloc (Nat.le_refl _) _

theorem try_nil (w : World) : Calls Try.prog 21 #[.nilFunc] w fun e w' => e = .returned (.tuple #[.int .i64 0, .int .i64 2]) ∧ Below w.heap.size w w' := by
  have hen : ∀ w, (binOp .eql 40 .nilFunc .nilFunc).run Try.prog w = .ok (.bool true) w := fun w => by kernel_rfl
  go_enter_defers Try.func21, Try.ntmps21
  go_wp2
  simp [bodyPostD, Leaves, settle, results, Try.results21, go_sem]
  exact (Below.refl _ _).alloc (Nat.le_refl _) _

theorem tdoor_idle (p : Addr) (w : World) :
    CallsD Try.prog 26 #[.pointer (some p)] .returning w fun e u' w' => e = .returned (.tuple #[]) ∧ u' = .returning ∧ w' = w := by
  refine callsD_of_wpS Try.func26 rfl fun c₀ cs hu => ?_
  apply wpS_seq
  apply wpS_region
  simp [wpOpsS, go_sem, recoverD, hu, Try.ntmps26, Exit.thenS]
  refine wpS_of_wp ?_
  change Code.wp _ _ _ ⟨#[.pointer (some p), .nilIface, .nilIface, undef, undef], []⟩ _
  go_wp2
  cases c₀
  simp_all [bodyPostS, results, Try.results26]

theorem tdoor_other (p : Addr) (v : Value) (older : List PanicEntry) (w : World) (hc : w.cell? p = some v) (hz : w.frozen? p = false) :
    CallsD Try.prog 26 #[.pointer (some p)] (.panicking (otherEntry false :: older)) w fun e u' w' =>
      e = .returned (.tuple #[]) ∧ u' = .panicking (otherEntry true :: older) ∧ w' = w.setCell p (.bool true) := by
  refine callsD_of_wpS Try.func26 rfl fun c₀ cs hu => ?_
  apply wpS_seq
  apply wpS_region
  simp [wpOpsS, go_sem, recoverD, hu, Try.ntmps26, Exit.thenS]
  refine wpS_of_wp ?_
  change Code.wp _ _ _ ⟨#[.pointer (some p), .iface 9 (.string { data := #[111, 116, 104, 101, 114] }), .iface 9 (.string { data := #[111, 116, 104, 101, 114] }), undef, undef], []⟩ _
  clear hu
  go_wp2
  simp [bodyPostS, results, Try.results26]

/-- The world in which 'tried' calls Try. -/
abbrev triedWorld (n x : Int) (o : Bool) (w : World) : World := ((((w.alloc (.cells #[.int .i64 n] 3)).alloc (.cells #[.int .i64 x] 22)).alloc (.cells #[.bool o] 4)).alloc (.cells #[.bool false] 4))
theorem tried_below (n x : Int) (o : Bool) (w : World) : Below w.heap.size w (triedWorld n x o w) :=
  ((((Below.refl _ _).alloc (Nat.le_refl _) _).alloc (by simp) _).alloc (by simp; omega) _).alloc (by simp; omega) _
theorem tried_size (n x : Int) (o : Bool) (w : World) : (triedWorld n x o w).heap.size = w.heap.size + 4 := by simp
theorem tried_0 (n x : Int) (o : Bool) (w : World) : (triedWorld n x o w).cell? ⟨w.heap.size + 2, 0, none⟩ = some (.bool o) := by simp [go_sem]
theorem tried_1 (n x : Int) (o : Bool) (w : World) : (triedWorld n x o w).cell? ⟨w.heap.size, 0, none⟩ = some (.int .i64 n) := by simp [go_sem]
theorem tried_2 (n x : Int) (o : Bool) (w : World) : (triedWorld n x o w).cell? ⟨w.heap.size + 1, 0, none⟩ = some (.int .i64 x) := by simp [go_sem]
theorem tried_3 (n x : Int) (o : Bool) (w : World) : (triedWorld n x o w).cell? ⟨w.heap.size + 3, 0, none⟩ = some (.bool false) := by simp [go_sem]
theorem tried_f (n x : Int) (o : Bool) (w : World) : (triedWorld n x o w).frozen? ⟨w.heap.size + 3, 0, none⟩ = false := by simp [go_sem]

theorem tried_ok (n : Int) (w : World) :
    Calls Try.prog 20 #[.int .i64 n, .int .i64 0, .bool false] w fun e w' => e = .returned (.tuple #[.int .i64 n, .int .i64 0, .bool false]) ∧ Below w.heap.size w w' := by
  have hmf : ∀ (fn : Fn) (first cap : Array Value) (w : World), (Instr.makeFunc fn first cap).run Try.prog w = .ok (.func fn first cap) w := fun _ _ _ _ => rfl
  skip
  go_enter_defers Try.func20, Try.ntmps20
  go_wp2_with ((go_at_call 21; (with_reducible refine (try_ok _ _ _ n _ (tried_0 n 0 false w) (tried_1 n 0 false w) (tried_2 n 0 false w)).mono ?_); rintro e w2 ⟨rfl, hb⟩; have hc : w2.cell? ⟨w.heap.size + 3, 0, none⟩ = some (.bool false) := (by rw [hb.cell (by simp)]; exact tried_3 n 0 false w); have hz : w2.frozen? ⟨w.heap.size + 3, 0, none⟩ = false := (by rw [hb.frozen (by simp)]; exact tried_f n 0 false w); have HB := Lib.hid hb; clear hb))
  refine leaves_cons (f := 26) (args := #[.pointer (some ⟨w.heap.size + 3, 0, none⟩)]) (by simp) (by simp [go_sem]) ?_
  refine (tdoor_idle ⟨w.heap.size + 3, 0, none⟩ _).mono ?_
  rintro e u' w'' ⟨rfl, rfl, rfl⟩
  simp [Leaves, settle, results, Try.results20, go_sem, hc, hz]
  exact ((tried_below n 0 false w).trans (HB.out.mono (by rw [tried_size]; omega))).setCell (by simp; try omega) _

theorem tried_err (n x : Int) (w : World) (hx : (x != 0) = true) :
    Calls Try.prog 20 #[.int .i64 n, .int .i64 x, .bool false] w fun e w' => e = .returned (.tuple #[.int .i64 0, .int .i64 x, .bool false]) ∧ Below w.heap.size w w' := by
  have hmf : ∀ (fn : Fn) (first cap : Array Value) (w : World), (Instr.makeFunc fn first cap).run Try.prog w = .ok (.func fn first cap) w := fun _ _ _ _ => rfl
  have HX := Lib.hid hx; clear hx
  go_enter_defers Try.func20, Try.ntmps20
  go_wp2_with ((go_at_call 21; (with_reducible refine (try_err _ _ _ n x _ (tried_0 n x false w) (tried_1 n x false w) (tried_2 n x false w) HX.out).mono ?_); rintro e w2 ⟨rfl, hb⟩; have hc : w2.cell? ⟨w.heap.size + 3, 0, none⟩ = some (.bool false) := (by rw [hb.cell (by simp)]; exact tried_3 n x false w); have hz : w2.frozen? ⟨w.heap.size + 3, 0, none⟩ = false := (by rw [hb.frozen (by simp)]; exact tried_f n x false w); have HB := Lib.hid hb; clear hb))
  refine leaves_cons (f := 26) (args := #[.pointer (some ⟨w.heap.size + 3, 0, none⟩)]) (by simp) (by simp [go_sem]) ?_
  refine (tdoor_idle ⟨w.heap.size + 3, 0, none⟩ _).mono ?_
  rintro e u' w'' ⟨rfl, rfl, rfl⟩
  simp [Leaves, settle, results, Try.results20, go_sem, hc, hz]
  exact ((tried_below n x false w).trans (HB.out.mono (by rw [tried_size]; omega))).setCell (by simp; try omega) _

theorem tried_other (n x : Int) (w : World) :
    Calls Try.prog 20 #[.int .i64 n, .int .i64 x, .bool true] w fun e w' => e = .returned (.tuple #[.int .i64 0, .int .i64 0, .bool true]) ∧ Below w.heap.size w w' := by
  have hmf : ∀ (fn : Fn) (first cap : Array Value) (w : World), (Instr.makeFunc fn first cap).run Try.prog w = .ok (.func fn first cap) w := fun _ _ _ _ => rfl
  skip
  go_enter_defers Try.func20, Try.ntmps20
  go_wp2_with ((go_at_call 21; (with_reducible refine (try_other _ _ _ _ (tried_0 n x true w)).mono ?_); rintro e w2 ⟨rfl, hb⟩; have hc : w2.cell? ⟨w.heap.size + 3, 0, none⟩ = some (.bool false) := (by rw [hb.cell (by simp)]; exact tried_3 n x true w); have hz : w2.frozen? ⟨w.heap.size + 3, 0, none⟩ = false := (by rw [hb.frozen (by simp)]; exact tried_f n x true w); have HB := Lib.hid hb; clear hb))
  refine leaves_cons (f := 26) (args := #[.pointer (some ⟨w.heap.size + 3, 0, none⟩)]) (by simp) (by simp [go_sem]) ?_
  refine (tdoor_other ⟨w.heap.size + 3, 0, none⟩ _ _ _ hc hz).mono ?_
  rintro e u' w'' ⟨rfl, rfl, rfl⟩
  simp [Leaves, settle, results, Try.results20, go_sem, hc, hz]
  exact ((tried_below n x true w).trans (HB.out.mono (by rw [tried_size]; omega))).setCell (by simp; try omega) _
end Go.Proofs.Ytkekjjlialoalaa
