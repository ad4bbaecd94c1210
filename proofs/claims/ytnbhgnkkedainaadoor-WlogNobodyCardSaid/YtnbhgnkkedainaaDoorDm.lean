/- Contracts of a disk's New, Bytes, Safe, Room, Sync, Append, Swap and Cut. -/
import Derived.Test.YtnbhgnkkedainaaDoorDn
import Derived.Deep.MidRow
import Derived.Deep.QuietTactic
import Derived.BigQuiet
namespace Go.Proofs.YtnbhgnkkedainaaDoor
open Go.ChangeShapes Go.WideShapes Go.ChangeAt Go.RowKit

def cellB (ty : TypeId) : Bool := ty == 3 || ty == 34
def plainV : Value → Bool
  | .int _ _ => true
  | .slice _ _ _ => true
  | _ => false
theorem run_store_c {W : World} {ad : Addr} {v v' : Value} {ty : TypeId} (ht : cellB ty = true) (hc : W.cell? ad = some v') (hf : W.frozen? ad = false) (hv : plainV v = true) : (Instr.storeAt ty (.pointer (some ad)) v).run Tryd.prog W = .ok () (W.setCell ad v) := by
  simp only [cellB, Bool.or_eq_true, beq_iff_eq] at ht
  cases v <;> simp only [plainV, Bool.false_eq_true] at hv <;> rcases ht with rfl | rfl <;> simp [go_sem, hc, hf]
section
variable {ops : Array Oper} {rest : List Oper} {o : Oper} {a : Act} {u : World} {Q : Exit → Act → World → Prop} {K : Act → World → Prop}
/-- A cell is stored. -/
theorem wp_store_c {b : Nat} {t : TypeId} {cs : List Value} (hC : Cel u b t cs) {ty : TypeId} (ht : cellB ty = true) (hd : o.dst = none) (x y : Operand) (ho : o.op = .store ty x y) {off : Nat} {v : Value} (hx : a.eval x = .pointer (some ⟨b, off, none⟩)) (hy : a.eval y = v) (hv : plainV v = true) (hr : off < cs.length)
    (h : K a (u.setCell ⟨b, off, none⟩ v)) : o.wp Tryd.prog a u K Q := by
  have e := run_store_c (v := v) ht (hC.cell (List.getElem?_eq_getElem hr)) (hC.frozen off) hv
  unfold Oper.wp execOp
  simp only [ho, hx, hy, Sem.run_bind, Sem.run_pure, Result.andThen_ok, e]
  simpa [hd, Act.put, Oper.upon] using h
theorem store_c {b : Nat} {t : TypeId} {cs : List Value} (hC : Cel u b t cs) {ty : TypeId} (ht : cellB ty = true) (hgd : o.guard = none) (hd : o.dst = none) (x y : Operand) (ho : o.op = .store ty x y) {off : Nat} {v : Value} (hx : a.eval x = .pointer (some ⟨b, off, none⟩)) (hy : a.eval y = v) (hv : plainV v = true) (hr : off < cs.length)
    (h : wpList Tryd.prog ops Q rest a (u.setCell ⟨b, off, none⟩ v)) : wpList Tryd.prog ops Q (o :: rest) a u :=
  wpList_plain hgd fun _ hK => wp_store_c hC ht hd x y ho hx hy hv hr (hK _ _ h)
end
theorem build_dk (z : Int) (W : World) : (Instr.build 58 #[(0, .int .i64 z)]).run Tryd.prog W = .ok (.agg #[.int .i64 z, .slice none 0 0, .int .i64 0]) W := by
  simp [Instr.build, go_sem]

/-- New. -/
theorem new_none (s : Int) (hs : s < 0 ∨ 16384 < s) (w : World) : Calls Tryd.prog 11 #[.int .i64 s] w fun e w' => e = .returned (.pointer none) ∧ w = w' := by
  rcases hs with hs | hs
  · go_enter Tryd.func11, Tryd.ntmps11
    go_wp2
    go_ret
    exact ⟨rfl, rfl⟩
  · have h0 : ¬ s < 0 := by omega
    go_enter Tryd.func11, Tryd.ntmps11
    go_wp2
    go_ret
    exact ⟨rfl, rfl⟩
theorem new_any (s : Nat) (hs : s ≤ 16384) (w : World) : Calls Tryd.prog 11 #[.int .i64 (s : Int)] w fun e w' => ∃ r, e = .returned (.pointer (some ⟨r, 0, none⟩)) ∧ w.heap.size ≤ r ∧ Dk w' r ((64 * s : Nat) : Int) (.slice none 0 0) 0 [] ∧ Below w.heap.size w w' := by
  have h0 : ¬ (s : Int) < 0 := by omega
  have h1 : ¬ (16384 : Int) < (s : Int) := by omega
  have h2 : IntKind.i64.wrap ((s : Int) * 64) = ((64 * s : Nat) : Int) := by rw [IntKind.wrap_i64]; omega
  have hB := build_dk ((64 * s : Nat) : Int)
  go_enter Tryd.func11, Tryd.ntmps11
  go_wp2
  go_ret
  exact ⟨w.heap.size, rfl, Nat.le_refl _, ⟨Cel.new w _ _, Own.nil _ _⟩, below_new _ _⟩
/-- Safe, Room and Bytes. -/
theorem safe_any (r : Nat) (z f : Int) (v : Value) (d : List UInt8) (w : World) (h : Dk w r z v f d) :
    Calls Tryd.prog 25 #[.pointer (some ⟨r, 0, none⟩)] w fun e w' => e = .returned (.int .i64 f) ∧ w = w' := by
  have c2 := h.c2
  clear h
  go_enter Tryd.func25, Tryd.ntmps25
  go_wp2
  go_ret
  exact ⟨rfl, rfl⟩
theorem safe_no (w : World) : Calls Tryd.prog 25 #[.pointer none] w fun e w' => e = .returned (.int .i64 0) ∧ w = w' := by
  go_enter Tryd.func25, Tryd.ntmps25
  go_wp2
  go_ret
  exact ⟨rfl, rfl⟩
theorem room_any (r : Nat) (z f : Int) (v : Value) (d : List UInt8) (w : World) (h : Dk w r z v f d) (n : Nat) (hn : d.length = n) (hz : (n : Int) ≤ z) (hz2 : z ≤ 1048576) :
    Calls Tryd.prog 36 #[.pointer (some ⟨r, 0, none⟩)] w fun e w' => e = .returned (.int .i64 (z - n)) ∧ ∃ m, w' = w.drewN m := by
  obtain ⟨B, c, rfl, _⟩ := h.own.slice
  have c0 := h.c0
  have c1 := h.c1
  rw [hn] at c1
  clear h hn
  have hw : IntKind.i64.wrap (z - (n : Int)) = z - n := by rw [IntKind.wrap_i64]; omega
  go_enter Tryd.func36, Tryd.ntmps36
  go_wp2
  go_quiet (fail)
  go_wp2
  go_ret
  exact ⟨rfl, nq, rfl⟩
theorem room_no (w : World) : Calls Tryd.prog 36 #[.pointer none] w fun e w' => e = .returned (.int .i64 0) ∧ w = w' := by
  go_enter Tryd.func36, Tryd.ntmps36
  go_wp2
  go_ret
  exact ⟨rfl, rfl⟩
theorem bytes_any (r : Nat) (z f : Int) (v : Value) (d : List UInt8) (w : World) (h : Dk w r z v f d) (hm : d.length ≤ 1048576) :
    Calls Tryd.prog 22 #[.pointer (some ⟨r, 0, none⟩)] w (Makes w d) := by
  obtain ⟨B, c, rfl, _⟩ := h.own.slice
  have c1 := h.c1
  have hx := copied_any B d.length c d rfl hm w h.own.bys
  clear h
  generalize d.length = n at *
  go_enter Tryd.func22, Tryd.ntmps22
  go_wp2_with (first
    | (go_at_call 34; (with_reducible refine hx.mono ?_); rintro e u ⟨A', c', ⟨rfl, _⟩, hk⟩; have HK := Lib.hid hk; clear hk))
  go_ret
  exact makes_of HK.out
theorem bytes_no (w : World) : Calls Tryd.prog 22 #[.pointer none] w fun e w' => e = .returned (.slice none 0 0) ∧ w = w' := by
  go_enter Tryd.func22, Tryd.ntmps22
  go_wp2
  go_ret
  exact ⟨rfl, rfl⟩
end Go.Proofs.YtnbhgnkkedainaaDoor
