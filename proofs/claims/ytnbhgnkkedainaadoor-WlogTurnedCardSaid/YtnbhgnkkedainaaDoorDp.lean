/- Contracts of a disk's Swap, Cut and Crash. -/
import Derived.Test.YtnbhgnkkedainaaDoorDo
namespace Go.Proofs.YtnbhgnkkedainaaDoor
open Go.ChangeShapes Go.WideShapes Go.ChangeAt Go.RowKit

section
variable {ops : Array Oper} {rest : List Oper} {o : Oper} {a : Act} {u : World} {Q : Exit → Act → World → Prop} {S : World → Prop}
theorem min_law {p q z : Int} (hz : min p q = z) (x y : Operand) (ho : o.op = .call { callee := .builtin .min, args := #[x, y], argTypes := #[3, 3] }) (hx : a.eval x = .int .i64 p) (hy : a.eval y = .int .i64 q) (hw : Region.wanted o (yielded ops a.tmps) = true)
    (h : wpList Tryd.prog ops Q rest (a.put o.dst (.int .i64 z)) u) : wpList Tryd.prog ops Q (o :: rest) a u :=
  BigFrame.wpList_want hw fun _ hK => by
    have e : (Builtin.min_ #[3, 3] o.type #[.int .i64 p, .int .i64 q]).run Tryd.prog u = .ok (.int .i64 z) u := by
      rw [run_min_int2]
      congr 2
      split <;> omega
    unfold Oper.wp execOp
    simp only [ho, resolve, invoke, builtin, Sem.run_bind, Sem.run_pure, Result.andThen_ok, List.map_toArray, List.map_cons, List.map_nil, hx, hy, e]
    exact hK _ _ h
theorem max_law {p q z : Int} (hz : max p q = z) (x y : Operand) (ho : o.op = .call { callee := .builtin .max, args := #[x, y], argTypes := #[3, 3] }) (hx : a.eval x = .int .i64 p) (hy : a.eval y = .int .i64 q) (hw : Region.wanted o (yielded ops a.tmps) = true)
    (h : wpList Tryd.prog ops Q rest (a.put o.dst (.int .i64 z)) u) : wpList Tryd.prog ops Q (o :: rest) a u :=
  BigFrame.wpList_want hw fun _ hK => by
    have e : (Builtin.max_ #[3, 3] o.type #[.int .i64 p, .int .i64 q]).run Tryd.prog u = .ok (.int .i64 z) u := by
      rw [run_max_int2]
      congr 2
      split <;> omega
    unfold Oper.wp execOp
    simp only [ho, resolve, invoke, builtin, Sem.run_bind, Sem.run_pure, Result.andThen_ok, List.map_toArray, List.map_cons, List.map_nil, hx, hy, e]
    exact hK _ _ h
theorem yield_max {p q z : Int} (hz : max p q = z) (x y : Operand) (ho : o.op = .call { callee := .builtin .max, args := #[x, y], argTypes := #[3, 3] }) (hx : a.eval x = .int .i64 p) (hy : a.eval y = .int .i64 q) (hw : Region.wanted o (yielded ops a.tmps) = true) :
    YieldsIf Tryd.prog ops S o (.int .i64 z) a :=
  .inl ⟨hw, fun w _ => by
    have e : (Builtin.max_ #[3, 3] o.type #[.int .i64 p, .int .i64 q]).run Tryd.prog w = .ok (.int .i64 z) w := by
      rw [run_max_int2]
      congr 2
      split <;> omega
    unfold execOp
    simp only [ho, resolve, invoke, builtin, Sem.run_bind, Sem.run_pure, Result.andThen_ok, List.map_toArray, List.map_cons, List.map_nil, hx, hy, e]⟩
theorem yield_min {p q z : Int} (hz : min p q = z) (x y : Operand) (ho : o.op = .call { callee := .builtin .min, args := #[x, y], argTypes := #[3, 3] }) (hx : a.eval x = .int .i64 p) (hy : a.eval y = .int .i64 q) (hw : Region.wanted o (yielded ops a.tmps) = true) :
    YieldsIf Tryd.prog ops S o (.int .i64 z) a :=
  .inl ⟨hw, fun w _ => by
    have e : (Builtin.min_ #[3, 3] o.type #[.int .i64 p, .int .i64 q]).run Tryd.prog w = .ok (.int .i64 z) w := by
      rw [run_min_int2]
      congr 2
      split <;> omega
    unfold execOp
    simp only [ho, resolve, invoke, builtin, Sem.run_bind, Sem.run_pure, Result.andThen_ok, List.map_toArray, List.map_cons, List.map_nil, hx, hy, e]⟩
theorem yield_add {p q z : Int} (hz : IntKind.i64.wrap (p + q) = z) (x y : Operand) (ty : TypeId) (ho : o.op = .binOp .add 3 x y ty) (hx : a.eval x = .int .i64 p) (hy : a.eval y = .int .i64 q) (hw : Region.wanted o (yielded ops a.tmps) = true) :
    YieldsIf Tryd.prog ops S o (.int .i64 z) a :=
  .inl ⟨hw, fun w _ => by
    unfold execOp
    simp only [ho, hx, hy]
    simp [go_sem, hz]⟩
theorem yield_mul {p q z : Int} (hz : IntKind.i64.wrap (p * q) = z) (x y : Operand) (ty : TypeId) (ho : o.op = .binOp .mul 3 x y ty) (hx : a.eval x = .int .i64 p) (hy : a.eval y = .int .i64 q) (hw : Region.wanted o (yielded ops a.tmps) = true) :
    YieldsIf Tryd.prog ops S o (.int .i64 z) a :=
  .inl ⟨hw, fun w _ => by
    unfold execOp
    simp only [ho, hx, hy]
    simp [go_sem, hz]⟩
theorem yield_quo {p q : Nat} (h1 : 1 < q) (h2 : p ≤ 1048576) (x y : Operand) (ty : TypeId) (ho : o.op = .binOp .quo 3 x y ty) (hx : a.eval x = .int .i64 (p : Int)) (hy : a.eval y = .int .i64 (q : Int)) (hw : Region.wanted o (yielded ops a.tmps) = true) :
    YieldsIf Tryd.prog ops S o (.int .i64 ((p / q : Nat) : Int)) a :=
  .inl ⟨hw, fun w _ => by
    have h3 : p / q ≤ p := Nat.div_le_self _ _
    have h4 : IntKind.i64.wrap ((p : Int) / (q : Int)) = (p : Int) / (q : Int) := by
      rw [← Int.natCast_ediv, IntKind.wrap_i64]
      generalize p / q = z at *
      omega
    have h5 : ¬ q = 0 := by omega
    unfold execOp
    simp only [ho, hx, hy]
    simp [go_sem, h4, h5]⟩
theorem yield_high {A : Option Addr} {n c K : Nat} (hK : K ≤ c) (x y : Operand) (ho : o.op = .slice 34 x none (some y) none) (hx : a.eval x = .slice A n c) (hy : a.eval y = .int .i64 (K : Int)) (hw : Region.wanted o (yielded ops a.tmps) = true) :
    YieldsIf Tryd.prog ops S o (.slice A K c) a :=
  .inl ⟨hw, fun w _ => by
    unfold execOp
    have h := slice_high A n c K hK w
    rw [high0] at h
    simp only [ho, hx, Option.map_some, Option.map_none, hy, Sem.run_bind]
    simp [Instr.sliceAt, h]⟩
theorem high_slice {A : Option Addr} {n c K : Nat} (hK : K ≤ c) (hgd : o.guard = none) (x y : Operand) (ho : o.op = .slice 34 x none (some y) none) (hx : a.eval x = .slice A n c) (hy : a.eval y = .int .i64 (K : Int))
    (h : wpList Tryd.prog ops Q rest (a.put o.dst (.slice A K c)) u) : wpList Tryd.prog ops Q (o :: rest) a u :=
  wpList_plain hgd fun _ hQ => by
    have e := slice_high A n c K hK u
    rw [high0] at e
    unfold Oper.wp execOp
    simp only [ho, hx, Option.map_some, Option.map_none, hy, Sem.run_bind]
    simp [Instr.sliceAt, e]
    exact hQ _ _ h
theorem run_load_c {W : World} {ad : Addr} {v : Value} {ty : TypeId} (ht : cellB ty = true) (hc : W.cell? ad = some v) : (Instr.loadAt ty (.pointer (some ad))).run Tryd.prog W = .ok v W := by
  simp only [cellB, Bool.or_eq_true, beq_iff_eq] at ht
  rcases ht with rfl | rfl <;> simp [go_sem, hc]
theorem yield_c {ty : TypeId} (ht : cellB ty = true) {ad : Addr} {v : Value} (hS : ∀ u, S u → u.cell? ad = some v) (x : Operand) (ho : o.op = .load ty x) (hx : a.eval x = .pointer (some ad)) (hw : Region.wanted o (yielded ops a.tmps) = true) : YieldsIf Tryd.prog ops S o v a :=
  .inl ⟨hw, fun u' hu => by
    unfold execOp
    simp only [ho, hx, Sem.run_bind, Sem.run_pure, Result.andThen_ok, run_load_c ht (hS u' hu)]⟩
end
theorem Mv.anew {w w' : World} (r : Nat) (v : Value) {v' : Value} (h : Below w.heap.size w w') (hv : ∀ k, v'.ownBlock = some k → w.heap.size ≤ k) : Mv w w' r v v' := ⟨h.os, h.tape, h.output, h.size, fun k hk _ _ => h.block k hk, .inr hv⟩
/-- Swap. -/
theorem swap_full (r : Nat) (z : Nat) (f : Int) (v : Value) (d : List UInt8) (A : Option Addr) (k c : Nat) (hk : z < k) (w : World) (h : Dk w r z v f d) :
    Calls Tryd.prog 33 #[.pointer (some ⟨r, 0, none⟩), .slice A k c] w fun e w' => e = .returned (.int .i64 7) ∧ w = w' := by
  have c0 := h.c0
  clear h
  have i1 : (z : Int) < k := by omega
  have i2 : decide ((z : Int) < k) = true := by simp; omega
  go_enter Tryd.func33, Tryd.ntmps33
  go_wp2
  go_ret
  exact ⟨rfl, rfl⟩
theorem swap_any (r : Nat) (z : Nat) (f : Int) (v : Value) (d : List UInt8) (A : Option Addr) (k c : Nat) (m : List UInt8) (hm : m.length = k) (hz2 : z ≤ 1048576) (hk : k ≤ z) (w : World) (hA : Bys w A m) (h : Dk w r z v f d) :
    Calls Tryd.prog 33 #[.pointer (some ⟨r, 0, none⟩), .slice A k c] w fun e w' => e = .returned (.int .i64 0) ∧ ∃ v', Dk w' r z v' k m ∧ Mv w w' r v v' := by
  have hx := copied_any A k c m hm (by omega) w hA
  have HL := Lib.hid hm
  have c0 := h.c0
  have HC := Lib.hid h.cel
  clear h hA
  rw [hm.symm] at hx
  clear hm
  have i1 : ¬ (z : Int) < k := by omega
  have i2 : decide ((z : Int) < k) = false := by simp; omega
  go_enter Tryd.func33, Tryd.ntmps33
  go_wp2_with (first
    | (go_at_call 34; rw [← HL.out]; (with_reducible refine hx.mono ?_); rintro e u ⟨A', c', ⟨rfl, _⟩, hk⟩; clear hx c0; have hc := HC.out.below hk.bel HC.out.lt; have ho := hk.own; have hm := Mv.anew r v hk.bel ho.base; clear HC hk; have HC := Lib.hid hc; have HM := Lib.hid hm; have HO := Lib.hid (ho.mono (Nat.zero_le _)); clear hc hm ho; generalize hN : m.length = N at *; have HL2 := Lib.hid hN; clear hN)
    | ((with_reducible refine store_c (v := .slice A' N c') HC.out rfl rfl rfl _ _ rfl rfl rfl rfl (by simp) ?_); have hd := Dk.setRow HC.out HO.out; have hm := HM.out.trans (Mv.set 1 (.slice A' N c')); clear HC HM HO; have HD := Lib.hid hd; have HM := Lib.hid hm; clear hd hm)
    | (go_at_call 30; (with_reducible refine (sync_any r _ _ _ m N HL2.out _ HD.out).mono ?_); rintro e u' ⟨rfl, hd, hm⟩; have hm := HM.out.trans hm; clear HM HD; have HM := Lib.hid hm; have HD := Lib.hid hd; clear hm hd))
  go_ret
  obtain rfl := HL.out
  exact ⟨rfl, _, HD.out, HM.out⟩
theorem swap_no (A : Option Addr) (k c : Nat) (w : World) : Calls Tryd.prog 33 #[.pointer none, .slice A k c] w fun e w' => e = .returned (.int .i64 1) ∧ w = w' := by
  go_enter Tryd.func33, Tryd.ntmps33
  go_wp2
  go_ret
  exact ⟨rfl, rfl⟩
/-- Cut. -/
theorem cut_no (n : Int) (w : World) : Calls Tryd.prog 29 #[.pointer none, .int .i64 n] w fun e w' => e = .returned (.int .i64 1) ∧ w = w' := by
  go_enter Tryd.func29, Tryd.ntmps29
  go_wp2
  go_ret
  exact ⟨rfl, rfl⟩
theorem cut_bad (r : Nat) (z f : Int) (v : Value) (d : List UInt8) (n : Int) (hn : n < 0 ∨ (d.length : Int) < n) (w : World) (h : Dk w r z v f d) :
    Calls Tryd.prog 29 #[.pointer (some ⟨r, 0, none⟩), .int .i64 n] w fun e w' => e = .returned (.int .i64 1) ∧ w = w' := by
  obtain ⟨B, c, rfl, _⟩ := h.own.slice
  have c1 := h.c1
  clear h
  generalize d.length = N at *
  by_cases h0 : n < 0
  · have i1 : decide (n < 0) = true := by simp; omega
    go_enter Tryd.func29, Tryd.ntmps29
    go_wp2
    go_ret
    exact ⟨rfl, rfl⟩
  · have i0 : (N : Int) < n := by omega
    clear hn
    have i1 : decide (n < 0) = false := by simp; omega
    have i2 : decide ((N : Int) < n) = true := by simp; omega
    go_enter Tryd.func29, Tryd.ntmps29
    go_wp2
    go_ret
    exact ⟨rfl, rfl⟩
theorem cut_any (r : Nat) (z f : Nat) (v : Value) (d : List UInt8) (n : Nat) (hn : n ≤ d.length) (w : World) (h : Dk w r z v f d) :
    Calls Tryd.prog 29 #[.pointer (some ⟨r, 0, none⟩), .int .i64 (n : Int)] w fun e w' => e = .returned (.int .i64 0) ∧ ∃ v', Dk w' r z v' (min f n : Nat) (d.take n) ∧ Mv w w' r v v' := by
  obtain ⟨B, c, rfl, hc⟩ := h.own.slice
  have c1 := h.c1
  have HC := Lib.hid h.cel
  have HO := Lib.hid (h.own.cut hn)
  have HK := Lib.hid (Nat.le_trans hn hc)
  have HT := Lib.hid (ownBlock_cut B d.length c n)
  clear h hc
  generalize d.length = N at *
  have i1 : decide ((n : Int) < 0) = false := by simp
  have i2 : decide ((N : Int) < (n : Int)) = false := by simp; omega
  have i3 : ¬ (n : Int) < 0 := by omega
  have i4 : ¬ (N : Int) < (n : Int) := by omega
  have HZ := Lib.hid (show min (f : Int) (n : Int) = ((min f n : Nat) : Int) by omega)
  have T1 := True.intro
  go_enter Tryd.func29, Tryd.ntmps29
  go_wp2_with (first
    | (with_reducible refine high_slice HK.out rfl _ _ rfl rfl rfl ?_)
    | ((with_reducible refine min_law HZ.out _ _ rfl rfl rfl rfl ?_))
    | (clear T1; (with_reducible refine store_c (v := .slice B n c) HC.out rfl rfl rfl _ _ rfl rfl rfl rfl (by simp) ?_); have hd := Dk.setRow HC.out HO.out; have hm := (Mv.set (w := w) (r := r) (v := .slice B N c) 1 (.slice B n c)).as HT.out; have c2 := hd.c2; clear HC HO; have HD := Lib.hid hd; have HM := Lib.hid hm; clear hd hm)
    | ((with_reducible refine store_c (v := .int .i64 (min f n : Nat)) HD.out.cel rfl rfl rfl _ _ rfl rfl rfl rfl (by simp) ?_); have hd := HD.out.setSafe ((min f n : Nat) : Int); have hm := HM.out.trans (Mv.set (r := r) (v := .slice B n c) 2 (.int .i64 (min f n : Nat))); clear HD HM; have HD := Lib.hid hd; have HM := Lib.hid hm; clear hd hm))
  go_ret
  exact ⟨rfl, _, HD.out, HM.out⟩
/-- Crash. -/
def cr (f n : Nat) (a b : Int) : Nat := min (max f (64 * (f / 64 + a.toNat)) + b.toNat) n
theorem cr_le (f n : Nat) (a b : Int) : cr f n a b ≤ n := Nat.min_le_right _ _
theorem cr_clamp {f n : Nat} (hf : f ≤ n) (hn : n ≤ 1048576) (a b : Int) : min (max f (64 * (f / 64 + min a.toNat 16384)) + min b.toNat 1048576) n = cr f n a b := by unfold cr; omega
theorem crash_no (a b : Int) (w : World) : Calls Tryd.prog 17 #[.pointer none, .int .i64 a, .int .i64 b] w fun e w' => e = .returned (.tuple #[]) ∧ w = w' := by
  go_enter Tryd.func17, Tryd.ntmps17
  go_wp2
  refine bodyPost_ret (results_none rfl _ _ _) rfl ?_
  exact ⟨rfl, rfl⟩
set_option maxRecDepth 100000 in
theorem crash_any (r : Nat) (z f : Nat) (v : Value) (d : List UInt8) (a b : Int) (hf : f ≤ d.length) (hn : d.length ≤ 1048576) (w : World) (h : Dk w r z v f d) :
    Calls Tryd.prog 17 #[.pointer (some ⟨r, 0, none⟩), .int .i64 a, .int .i64 b] w fun e w' => e = .returned (.tuple #[]) ∧ ∃ v', Dk w' r z v' (cr f d.length a b : Nat) (d.take (cr f d.length a b)) ∧ Mv w w' r v v' := by
  obtain ⟨B, c, rfl, hc⟩ := h.own.slice
  have HC := Lib.hid h.cel
  have hcr := cr_clamp hf hn a b
  have hle := cr_le f d.length a b
  have HO := Lib.hid (h.own.cut hle)
  have HK := Lib.hid (Nat.le_trans hle hc)
  have HT := Lib.hid (ownBlock_cut B d.length c (cr f d.length a b))
  have HLN := Lib.hid (show (d.take (cr f d.length a b)).length = cr f d.length a b by rw [List.length_take]; omega)
  have HX1 := Lib.hid (show max a 0 = (a.toNat : Int) by omega)
  have HX2 := Lib.hid (show min (a.toNat : Int) 16384 = ((min a.toNat 16384 : Nat) : Int) by omega)
  have HX3 := Lib.hid (show max b 0 = (b.toNat : Int) by omega)
  have HX4 := Lib.hid (show min (b.toNat : Int) 1048576 = ((min b.toNat 1048576 : Nat) : Int) by omega)
  have HS1 := Lib.hid (show min a.toNat 16384 ≤ 16384 by omega)
  have HS2 := Lib.hid (show min b.toNat 1048576 ≤ 1048576 by omega)
  have c1 := h.c1
  have c2 := h.c2
  clear h hc
  generalize a.toNat = sa at *
  generalize b.toNat = sb at *
  generalize cr f d.length a b = K at *
  generalize d.length = N at *
  generalize d.take K = D at *
  generalize min sa 16384 = s at *
  generalize min sb 1048576 = t at *
  have HW1 := Lib.hid (show IntKind.i64.wrap (((f / 64 : Nat) : Int) + (s : Int)) = ((f / 64 + s : Nat) : Int) by have := HS1.out; rw [IntKind.wrap_i64]; omega)
  have HW2 := Lib.hid (show IntKind.i64.wrap (64 * ((f / 64 + s : Nat) : Int)) = ((64 * (f / 64 + s) : Nat) : Int) by have := HS1.out; rw [IntKind.wrap_i64]; omega)
  have HW3 := Lib.hid (show max (f : Int) ((64 * (f / 64 + s) : Nat) : Int) = ((max f (64 * (f / 64 + s)) : Nat) : Int) by omega)
  have HW4 := Lib.hid (show IntKind.i64.wrap (((max f (64 * (f / 64 + s)) : Nat) : Int) + (t : Int)) = ((max f (64 * (f / 64 + s)) + t : Nat) : Int) by have := HS1.out; have := HS2.out; rw [IntKind.wrap_i64]; omega)
  have HW5 := Lib.hid (show min ((max f (64 * (f / 64 + s)) + t : Nat) : Int) (N : Int) = (K : Int) by omega)
  have HFN := Lib.hid (show f ≤ 1048576 by omega)
  clear hcr hf hn hle
  generalize 64 * (f / 64 + s) = X2 at *
  generalize f / 64 + s = X1 at *
  generalize max f X2 = X3 at *
  generalize X3 + t = X4 at *
  have C1 := Lib.hid c1; have C2 := Lib.hid c2; clear c1 c2
  go_enter Tryd.func17, Tryd.ntmps17
  go_wp2_with (first
    | (with_reducible refine max_law HX1.out _ _ rfl rfl rfl rfl ?_)
    | (with_reducible refine min_law HX2.out _ _ rfl rfl rfl rfl ?_)
    | (with_reducible refine max_law HX3.out _ _ rfl rfl rfl rfl ?_)
    | (with_reducible refine min_law HX4.out _ _ rfl rfl rfl rfl ?_))
  refine Draws.start (S := fun u : World => u = w.drew) (n := 14) 14 rfl (by kernel_rfl) ?_
  have HS := Lib.hid (show (fun u : World => u = w.drew) w.drew from rfl)
  refine Draws.take 0 (v := ?v1) HS.out rfl (by kernel_rfl) (fun _ _ _ h => h) (Or.inl ⟨rfl, ?h1⟩) ?r1
  case h1 => intro w' hw'; go_simp; (try with_reducible rfl)
  (try simp only [Act.put, List.setIfInBounds_toArray, List.set_cons_zero, List.set_cons_succ])
  refine Draws.take 1 (v := ?v2) HS.out rfl (by kernel_rfl) (fun _ _ _ h => h) (Or.inl ⟨rfl, ?h2⟩) ?r2
  case h2 => intro w' hw'; go_simp; (try with_reducible rfl)
  (try simp only [Act.put, List.setIfInBounds_toArray, List.set_cons_zero, List.set_cons_succ])
  refine Draws.take 2 (v := ?v3) HS.out rfl (by kernel_rfl) (fun _ _ _ h => h) (Or.inl ⟨rfl, ?h3⟩) ?r3
  case h3 => intro w' hw'; go_simp; (try with_reducible rfl)
  (try simp only [Act.put, List.setIfInBounds_toArray, List.set_cons_zero, List.set_cons_succ])
  refine Draws.take 3 HS.out rfl (by kernel_rfl) (fun _ _ _ h => h) (yield_c rfl (fun _ h => by rw [h]; exact C2.out) _ rfl rfl rfl) ?_
  (try simp only [Act.put, List.setIfInBounds_toArray, List.set_cons_zero, List.set_cons_succ])
  refine Draws.take 4 (v := ?v4) HS.out rfl (by kernel_rfl) (fun _ _ _ h => h) (Or.inl ⟨rfl, ?h4⟩) ?r4
  case h4 => intro w' hw'; go_simp; (try with_reducible rfl)
  (try simp only [Act.put, List.setIfInBounds_toArray, List.set_cons_zero, List.set_cons_succ])
  refine Draws.take 5 (v := ?v5) HS.out rfl (by kernel_rfl) (fun _ _ _ h => h) (Or.inl ⟨rfl, ?h5⟩) ?r5
  case h5 => intro w' hw'; go_simp; (try with_reducible rfl)
  (try simp only [Act.put, List.setIfInBounds_toArray, List.set_cons_zero, List.set_cons_succ])
  refine Draws.take 6 (v := ?v6) HS.out rfl (by kernel_rfl) (fun _ _ _ h => h) (Or.inl ⟨rfl, ?h6⟩) ?r6
  case h6 => intro w' hw'; go_simp; (try with_reducible rfl)
  (try simp only [Act.put, List.setIfInBounds_toArray, List.set_cons_zero, List.set_cons_succ])
  refine Draws.take 7 HS.out rfl (by kernel_rfl) (fun _ _ _ h => h) (yield_c rfl (fun _ h => by rw [h]; exact C2.out) _ rfl rfl rfl) ?_
  (try simp only [Act.put, List.setIfInBounds_toArray, List.set_cons_zero, List.set_cons_succ])
  refine Draws.take 8 HS.out rfl (by kernel_rfl) (fun _ _ _ h => h) (yield_quo (q := 64) (by omega) HFN.out _ _ _ rfl rfl rfl rfl) ?_
  (try simp only [Act.put, List.setIfInBounds_toArray, List.set_cons_zero, List.set_cons_succ])
  refine Draws.take 9 (v := ?v7) HS.out rfl (by kernel_rfl) (fun _ _ _ h => h) (Or.inl ⟨rfl, ?h7⟩) ?r7
  case h7 => intro w' hw'; go_simp; (try with_reducible rfl)
  (try simp only [Act.put, List.setIfInBounds_toArray, List.set_cons_zero, List.set_cons_succ])
  refine Draws.take 10 HS.out rfl (by kernel_rfl) (fun _ _ _ h => h) (yield_add HW1.out _ _ _ rfl rfl rfl rfl) ?_
  (try simp only [Act.put, List.setIfInBounds_toArray, List.set_cons_zero, List.set_cons_succ])
  refine Draws.take 11 HS.out rfl (by kernel_rfl) (fun _ _ _ h => h) (yield_mul HW2.out _ _ _ rfl rfl rfl rfl) ?_
  (try simp only [Act.put, List.setIfInBounds_toArray, List.set_cons_zero, List.set_cons_succ])
  refine Draws.take 12 HS.out rfl (by kernel_rfl) (fun _ _ _ h => h) (yield_max HW3.out _ _ rfl rfl rfl rfl) ?_
  (try simp only [Act.put, List.setIfInBounds_toArray, List.set_cons_zero, List.set_cons_succ])
  refine Draws.take 13 (v := ?v8) HS.out rfl (by kernel_rfl) (fun _ _ _ h => h) (Or.inl ⟨rfl, ?h8⟩) ?r8
  case h8 => intro w' hw'; go_simp; (try with_reducible rfl)
  (try simp only [Act.put, List.setIfInBounds_toArray, List.set_cons_zero, List.set_cons_succ])
  refine Draws.done (by kernel_rfl) ?_
  clear HS
  go_wp2_with (first
    | fail)
  refine Draws.start (S := fun u : World => u = w.drew.drew) (n := 15) 18 rfl (by kernel_rfl) ?_
  have HS := Lib.hid (show (fun u : World => u = w.drew.drew) w.drew.drew from rfl)
  refine Draws.take 0 (v := ?v9) HS.out rfl (by kernel_rfl) (fun _ _ _ h => h) (Or.inl ⟨rfl, ?h9⟩) ?r9
  case h9 => intro w' hw'; go_simp; (try with_reducible rfl)
  (try simp only [Act.put, List.setIfInBounds_toArray, List.set_cons_zero, List.set_cons_succ])
  refine Draws.take 1 (v := ?v10) HS.out rfl (by kernel_rfl) (fun _ _ _ h => h) (Or.inl ⟨rfl, ?h10⟩) ?r10
  case h10 => intro w' hw'; go_simp; (try with_reducible rfl)
  (try simp only [Act.put, List.setIfInBounds_toArray, List.set_cons_zero, List.set_cons_succ])
  refine Draws.take 2 (v := ?v11) HS.out rfl (by kernel_rfl) (fun _ _ _ h => h) (Or.inl ⟨rfl, ?h11⟩) ?r11
  case h11 => intro w' hw'; go_simp; (try with_reducible rfl)
  (try simp only [Act.put, List.setIfInBounds_toArray, List.set_cons_zero, List.set_cons_succ])
  refine Draws.take 3 (v := ?v12) HS.out rfl (by kernel_rfl) (fun _ _ _ h => h) (Or.inl ⟨rfl, ?h12⟩) ?r12
  case h12 => intro w' hw'; go_simp; (try with_reducible rfl)
  (try simp only [Act.put, List.setIfInBounds_toArray, List.set_cons_zero, List.set_cons_succ])
  refine Draws.take 4 HS.out rfl (by kernel_rfl) (fun _ _ _ h => h) (yield_c rfl (fun _ h => by rw [h]; exact C1.out) _ rfl rfl rfl) ?_
  (try simp only [Act.put, List.setIfInBounds_toArray, List.set_cons_zero, List.set_cons_succ])
  refine Draws.take 5 (v := ?v13) HS.out rfl (by kernel_rfl) (fun _ _ _ h => h) (Or.inl ⟨rfl, ?h13⟩) ?r13
  case h13 => intro w' hw'; go_simp; (try with_reducible rfl)
  (try simp only [Act.put, List.setIfInBounds_toArray, List.set_cons_zero, List.set_cons_succ])
  refine Draws.take 6 (v := ?v14) HS.out rfl (by kernel_rfl) (fun _ _ _ h => h) (Or.inl ⟨rfl, ?h14⟩) ?r14
  case h14 => intro w' hw'; go_simp; (try with_reducible rfl)
  (try simp only [Act.put, List.setIfInBounds_toArray, List.set_cons_zero, List.set_cons_succ])
  refine Draws.take 7 HS.out rfl (by kernel_rfl) (fun _ _ _ h => h) (yield_add HW4.out _ _ _ rfl rfl rfl rfl) ?_
  (try simp only [Act.put, List.setIfInBounds_toArray, List.set_cons_zero, List.set_cons_succ])
  refine Draws.take 8 (v := ?v15) HS.out rfl (by kernel_rfl) (fun _ _ _ h => h) (Or.inl ⟨rfl, ?h15⟩) ?r15
  case h15 => intro w' hw'; go_simp; (try with_reducible rfl)
  (try simp only [Act.put, List.setIfInBounds_toArray, List.set_cons_zero, List.set_cons_succ])
  refine Draws.take 9 (v := ?v16) HS.out rfl (by kernel_rfl) (fun _ _ _ h => h) (Or.inl ⟨rfl, ?h16⟩) ?r16
  case h16 => intro w' hw'; go_simp; (try with_reducible rfl)
  (try simp only [Act.put, List.setIfInBounds_toArray, List.set_cons_zero, List.set_cons_succ])
  refine Draws.take 10 (v := ?v17) HS.out rfl (by kernel_rfl) (fun _ _ _ h => h) (Or.inl ⟨rfl, ?h17⟩) ?r17
  case h17 => intro w' hw'; go_simp; (try with_reducible rfl)
  (try simp only [Act.put, List.setIfInBounds_toArray, List.set_cons_zero, List.set_cons_succ])
  refine Draws.take 11 HS.out rfl (by kernel_rfl) (fun _ _ _ h => h) (yield_c rfl (fun _ h => by rw [h]; exact C1.out) _ rfl rfl rfl) ?_
  (try simp only [Act.put, List.setIfInBounds_toArray, List.set_cons_zero, List.set_cons_succ])
  refine Draws.take 12 (v := ?v18) HS.out rfl (by kernel_rfl) (fun _ _ _ h => h) (Or.inl ⟨rfl, ?h18⟩) ?r18
  case h18 => intro w' hw'; go_simp; (try with_reducible rfl)
  (try simp only [Act.put, List.setIfInBounds_toArray, List.set_cons_zero, List.set_cons_succ])
  refine Draws.take 13 HS.out rfl (by kernel_rfl) (fun _ _ _ h => h) (yield_min HW5.out _ _ rfl rfl rfl rfl) ?_
  (try simp only [Act.put, List.setIfInBounds_toArray, List.set_cons_zero, List.set_cons_succ])
  refine Draws.take 14 HS.out rfl (by kernel_rfl) (fun _ _ _ h => h) (yield_high HK.out _ _ rfl rfl rfl rfl) ?_
  (try simp only [Act.put, List.setIfInBounds_toArray, List.set_cons_zero, List.set_cons_succ])
  refine Draws.does 15 rfl (by kernel_rfl) rfl (fun K' hK => ?_)
  go_simp
  refine hK.out _ _ (fun h => absurd h (by omega)) ?_
  clear hK K'
  (try simp only [Act.put, List.setIfInBounds_toArray, List.set_cons_zero, List.set_cons_succ])
  refine Draws.does 16 rfl (by kernel_rfl) rfl (fun K' hK => ?_)
  go_simp
  refine hK.out _ _ (fun h => absurd h (by omega)) ?_
  clear hK K'
  (try simp only [Act.put, List.setIfInBounds_toArray, List.set_cons_zero, List.set_cons_succ])
  refine Draws.does 17 rfl (by kernel_rfl) rfl (fun K' hK => ?_)
  refine wp_store_c (u := w.drew.drew) (v := .slice B K c) HC.out rfl rfl _ _ rfl rfl rfl rfl (by simp) ?_
  refine hK.out _ _ (fun h => absurd h (by omega)) ?_
  clear hK K' HS
  (try simp only [Act.put, List.setIfInBounds_toArray, List.set_cons_zero, List.set_cons_succ])
  refine Draws.done (by kernel_rfl) ?_
  have hd := Dk.setRow (w := w.drew.drew) HC.out (Own.below HO.out (below_dn w 2))
  have hm := ((Mv.below r (.slice B N c) (below_dn w 2)).trans (Mv.set (w := w.drew.drew) (r := r) (v := .slice B N c) 1 (.slice B K c))).as HT.out
  clear HC HO
  have HD := Lib.hid hd; have HM := Lib.hid hm; clear hd hm
  generalize w.drew.drew.setCell ⟨r, 1, none⟩ (.slice B K c) = u at *
  go_wp2_with (first
    | (go_at_call 30; (with_reducible refine (sync_any r _ _ _ D K HLN.out _ HD.out).mono ?_); rintro e u' ⟨rfl, hd, hm⟩; have hm := HM.out.trans hm; clear HM HD; have HM := Lib.hid hm; have HD := Lib.hid hd; clear hm hd))
  go_end0
  exact ⟨rfl, _, HD.out, HM.out⟩
end Go.Proofs.YtnbhgnkkedainaaDoor
