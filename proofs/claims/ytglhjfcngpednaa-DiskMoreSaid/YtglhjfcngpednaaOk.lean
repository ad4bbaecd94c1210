/- Rows of bytes of the call's own; what a call that makes bytes ends with. -/
import Derived.Test.YtglhjfcngpednaaOm
import Derived.Laws.Cover3
namespace Go.Proofs.Ytglhjfcngpednaa
open Go.ChangeShapes Go.WideShapes Go.ChangeAt Go.RowKit

/-- All is as it was; v is a row of the call's own that holds the bytes l. -/
structure KO (w0 : World) (v : Value) (l : List UInt8) (w : World) : Prop where
  bel : Below w0.heap.size w0 w
  own : Own w w0.heap.size v l
theorem KO.start (w : World) : KO w (.slice none 0 0) [] w := ⟨Below.refl _ _, Own.nil _ _⟩
theorem KO.call {w0 w w' : World} {v : Value} {l : List UInt8} (h : KO w0 v l w) (hb : Below w.heap.size w w') : KO w0 v l w' := ⟨h.bel.trans (hb.mono h.bel.size), h.own.below hb⟩
theorem below_new (w : World) (o : Obj) : Below w.heap.size w (w.alloc o) := (Below.refl _ _).alloc (Nat.le_refl _) _
theorem app_more {w0 w : World} {ops : Array Oper} {rest : List Oper} {o : Oper} {a : Act} {Q : Exit → Act → World → Prop} {v : Value} {l : List UInt8} (hk : KO w0 v l w) {A : Option Addr} {m : List UInt8} (hr : Bys w A m) {k : Nat} (hm : m.length = k) (hgd : o.guard = none) (s x : Operand)
    (ho : o.op = .call { callee := .builtin .append, args := #[s, x], argTypes := #[27, 27] }) (hs : a.eval s = v) {c : Nat} (hx : a.eval x = .slice A k c) (h63 : l.length + m.length ≤ 1048576)
    (h : ∀ v' w', KO w0 v' (l ++ m) w' → wpList Try.prog ops Q rest (a.put o.dst v') w') : wpList Try.prog ops Q (o :: rest) a w :=
  app_bys hk.own hk.bel.size hr hm hgd s x ho hs hx h63 fun v' w' h2 h3 => h v' w' ⟨hk.bel.grown h3 hk.bel.size hk.own.base, h2⟩
/-- The contract's end: a slice that holds the bytes. -/
theorem KO.out {w0 w : World} {v : Value} {l : List UInt8} (h : KO w0 v l w) : ∃ A c, (Ending.returned v = .returned (.slice A l.length c) ∧ l.length ≤ c) ∧ KO w0 (.slice A l.length c) l w := by
  obtain ⟨A, c, hv, hc⟩ := h.own.slice
  subst hv
  exact ⟨A, c, ⟨rfl, hc⟩, h⟩
theorem ko_new (w : World) (cs : Array Value) (l : List UInt8) (h : cs = (bys l).toArray) (hm : l.length ≤ maxLen) : KO w (.slice (some ⟨w.heap.size, 0, none⟩) l.length l.length) l (w.alloc (.cells cs 5)) := ⟨below_new w _, own_new w cs l h hm⟩
theorem slice_high (a : Option Addr) (len cap K : Nat) (h : K ≤ cap) (W : World) : (Instr.slice 27 (.slice a len cap) none (some (.int .i64 (K : Int))) none).run Try.prog W = .ok (.slice (if cap = 0 then a else a.map (·.add 0)) K cap) W := by
  obtain ⟨i0, hi0, hz0, hz1, hz2⟩ := info_parts b_info
  simp [Instr.slice, run_underlying Try.underlying27, Instr.sliceBounds, Instr.sliceBound, asIntOf, sizeOf, typeInfo, hi0, h]
theorem KO.lift {w0 w w' : World} {v : Value} {l : List UInt8} (hb : Below w0.heap.size w0 w) (h : KO w v l w') : KO w0 v l w' := ⟨hb.trans (h.bel.mono hb.size), h.own.mono hb.size⟩
/-- What a call that makes bytes ends with. -/
def Makes (w : World) (l : List UInt8) (e : Ending) (w' : World) : Prop := ∃ A c, (e = .returned (.slice A l.length c) ∧ l.length ≤ c) ∧ KO w (.slice A l.length c) l w'
theorem eq_nil (A : Option Addr) (k c : Nat) (W : World) : (binOp .eql 27 (.slice A k c) (.slice none 0 0)).run Try.prog W = .ok (.bool A.isNone) W := by
  simp only [binOp]
  simp [run_equal_slice_nil W 27 5 A k c Try.underlying27]
theorem makes_of {w0 w : World} {v : Value} {l : List UInt8} (h : KO w0 v l w) : Makes w0 l (.returned v) w := h.out
theorem run_build0 (u : World) : (Instr.buildSlice 27 0 #[]).run Try.prog u = .ok (.slice (some ⟨u.heap.size, 0, none⟩) 0 0) (u.alloc (.cells #[] 5)) := by
  obtain ⟨i0, hi0, hz0, hz1, hz2⟩ := info_parts b_info
  simp [Instr.buildSlice, run_underlying Try.underlying27, sizeOf, typeInfo, hi0, Instr.fill, newRow, newObj]
  rw [show Array.map (fun _ : Nat => (default : Value)) (Array.range 0) = #[] from by simp]
  rfl
/-- A row with none. -/
theorem build_none {w0 u : World} {ops : Array Oper} {rest : List Oper} {o : Oper} {a : Act} {Q : Exit → Act → World → Prop} (hb : Below w0.heap.size w0 u) (hgd : o.guard = none) (ho : o.op = .buildSlice 27 0 #[])
    (h : ∀ v u', KO w0 v [] u' → Below u.heap.size u u' → wpList Try.prog ops Q rest (a.put o.dst v) u') : wpList Try.prog ops Q (o :: rest) a u :=
  wpList_plain hgd fun K hK => by
    unfold Oper.wp execOp
    simp only [ho, List.map_toArray, List.map_nil, Sem.run_bind, Sem.run_pure, Result.andThen_ok, run_build0]
    exact hK _ _ (h _ _ ⟨hb.trans ((below_new _ _).mono hb.size), (own_new u #[] [] rfl (by simp [maxLen])).mono hb.size⟩ (below_new _ _))
end Go.Proofs.Ytglhjfcngpednaa
