/- Parts of regions that draw their order; bytes that are kept, each at its place. -/
import Derived.Test.YtnbhgnkkedainaaDoorFz
namespace Go.Proofs.YtnbhgnkkedainaaDoor
open Go.ChangeShapes Go.WideShapes Go.ChangeAt Go.RowKit

section
variable {P : Program} {ops : Array Oper} {Q : Exit → Act → World → Prop} {S S' : World → Prop} {n : Nat}
/-- What is kept may be told more closely from here on. -/
theorem Draws.more (hS : ∀ w, S' w → S w) : ∀ (fuel : Nat) (listed : Array Bool) (a : Act) (w : World), Draws P ops Q S' n fuel listed a w → Draws P ops Q S n fuel listed a w
  | 0, _, _, _, h => h
  | fuel + 1, _, _, _, h => ⟨h.1, fun i hi => wpOp_mono (fun a' w' h' => ⟨fun hn => hS _ (h'.1 hn), Draws.more hS fuel _ a' w' h'.2⟩) (h.2 i hi)⟩
end
theorem yield_str {ops : Array Oper} {S : World → Prop} {a : Act} {o : Oper} {A : Option Addr} {l : List UInt8} (hS : ∀ w, S w → Bys w A l) {k : Nat} (hk : l.length = k) (x : Operand) (ho : o.op = .convert 34 9 x) {c : Nat} (hx : a.eval x = .slice A k c)
    (hw : Region.wanted o (yielded ops a.tmps) = true) : YieldsIf Tryd.prog ops S o (.string ⟨l.toArray⟩) a := by
  subst hk
  refine .inl ⟨hw, fun w' hw' => ?_⟩
  unfold execOp
  simp only [ho, hx]
  simp [go_sem, run_str (hS w' hw') c]
theorem yield_gtr {ops : Array Oper} {S : World → Prop} {o : Oper} {a : Act} {p q : Int} {b : Bool} (hb : decide (q < p) = b) (x y : Operand) (t : TypeId) (ho : o.op = .binOp .gtr 3 x y t) (hx : a.eval x = .int .i64 p) (hy : a.eval y = .int .i64 q) (hw : Region.wanted o (yielded ops a.tmps) = true) :
    YieldsIf Tryd.prog ops S o (.bool b) a :=
  .inl ⟨hw, fun w _ => by
    subst hb
    unfold execOp
    simp only [ho, hx, hy]
    simp [go_sem]⟩
theorem yield_eqs {ops : Array Oper} {S : World → Prop} {o : Oper} {a : Act} {s t : ByteArray} {b : Bool} (hb : (s.toList == t.toList) = b) (x y : Operand) (ty : TypeId) (ho : o.op = .binOp .eql 9 x y ty) (hx : a.eval x = .string s) (hy : a.eval y = .string t) (hw : Region.wanted o (yielded ops a.tmps) = true) :
    YieldsIf Tryd.prog ops S o (.bool b) a :=
  .inl ⟨hw, fun w _ => by
    subst hb
    unfold execOp
    simp only [ho, hx, hy]
    simp [go_sem]⟩
theorem yield_nes {ops : Array Oper} {S : World → Prop} {o : Oper} {a : Act} {s t : ByteArray} {b : Bool} (hb : (s.toList == t.toList) = b) (x y : Operand) (ty : TypeId) (ho : o.op = .binOp .neq 9 x y ty) (hx : a.eval x = .string s) (hy : a.eval y = .string t) (hw : Region.wanted o (yielded ops a.tmps) = true) :
    YieldsIf Tryd.prog ops S o (.bool !b) a :=
  .inl ⟨hw, fun w _ => by
    subst hb
    unfold execOp
    simp only [ho, hx, hy]
    simp [go_sem]⟩
theorem Bys.drew {w : World} {A : Option Addr} {l : List UInt8} (h : Bys w A l) : Bys w.drew A l := h.keep fun _ _ _ => rfl
/-- Bytes that are kept, each at its place. -/
structure KB (w0 : World) (L : List (Option Addr × List UInt8)) (u : World) : Prop where
  bel : Below w0.heap.size w0 u
  all : ∀ x ∈ L, Bys u x.1 x.2
theorem KB.call {w0 u u' : World} {L : List (Option Addr × List UInt8)} (h : KB w0 L u) (hb : Below u.heap.size u u') : KB w0 L u' := ⟨h.bel.trans (hb.mono h.bel.size), fun x hx => (h.all x hx).below hb⟩
theorem KB.add {w0 u : World} {L : List (Option Addr × List UInt8)} (h : KB w0 L u) {A : Option Addr} {l : List UInt8} (hy : Bys u A l) : KB w0 ((A, l) :: L) u := ⟨h.bel, fun x hx => by
  rcases List.mem_cons.1 hx with rfl | hx
  · exact hy
  · exact h.all x hx⟩
theorem KB.tail {w0 u : World} {x : Option Addr × List UInt8} {L : List (Option Addr × List UInt8)} (h : KB w0 (x :: L) u) : KB w0 L u := ⟨h.bel, fun y hy => h.all y (List.mem_cons_of_mem _ hy)⟩
theorem KB.get {w0 u : World} {L : List (Option Addr × List UInt8)} (h : KB w0 L u) (i : Nat) {A : Option Addr} {l : List UInt8} (hi : L[i]? = some (A, l)) : Bys u A l := h.all (A, l) (List.mem_of_getElem? hi)
theorem KB.drew {w0 u : World} {L : List (Option Addr × List UInt8)} (h : KB w0 L u) : KB w0 L u.drew := h.call (Below.refl _ _).drew
end Go.Proofs.YtnbhgnkkedainaaDoor
