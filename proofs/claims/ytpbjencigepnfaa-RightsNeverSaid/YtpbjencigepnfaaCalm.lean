/- A region that draws its order, whose operations read what is kept and whose callees only make memory of their own: one walk in the text's order. -/
import Derived.Test.YtpbjencigepnfaaVecs
namespace Go.Proofs.Ytpbjencigepnfaa
open Go.ChangeShapes Go.WideShapes Go.ChangeAt Go.RowKit

/-- A world that meets S. -/
structure Kept (S : World → Prop) where
  u : World
  ok : S u

/-- One walk in the text's order serves every order, where each operation tells the same in every world that meets S, and leaves one that does. -/
theorem region_calm {P : Program} {S : World → Prop} {id : Nat} {Q : Exit → Act → World → Prop} {a : Act} {w : World} {l : List Oper} (hS : S w.drew) (hm : P.follows .mixedOrders = true) (hB : Region.lexB .any l.toArray = true)
    (h : wpQuiet P l.toArray (fun w' => ∃ s : Kept S, w' = s.u) (fun a' => ∀ w', (∃ s : Kept S, w' = s.u) → Q .normal a' w') l a) : (Code.region id l.toArray true).wp P Q a w :=
  wp_region_quiet (C := fun w' => ∃ s : Kept S, w' = s.u) hm hB ⟨⟨_, hS⟩, rfl⟩ (by simpa using h)

/-- A callee that keeps S, from a world that meets it. -/
theorem calls_calm {P : Program} {S : World → Prop} {f : FuncId} {args : Array Value} {s : Kept S} {v : Value} (hk : ∀ {u w' : World}, S u → Below u.heap.size u w' → S w')
    (h : Calls P f args s.u fun e w' => e = .returned v ∧ Below s.u.heap.size s.u w') : Calls P f args s.u fun e w' => e = .returned v ∧ ∃ s' : Kept S, w' = s'.u :=
  h.mono fun _ w' ⟨he, hb⟩ => ⟨he, ⟨w', hk s.ok hb⟩, rfl⟩

/-- A callee that leaves the world as it was. -/
theorem calls_same {P : Program} {S : World → Prop} {f : FuncId} {args : Array Value} {s : Kept S} {v : Value}
    (h : Calls P f args s.u fun e w' => e = .returned v ∧ s.u = w') : Calls P f args s.u fun e w' => e = .returned v ∧ ∃ s' : Kept S, w' = s'.u :=
  h.mono fun _ _ ⟨he, hb⟩ => ⟨he, s, hb.symm⟩

theorem quiet_load_vec {o : Oper} {a : Act} {C : World → Prop} {K : Act → Prop} (x : Operand) (ho : o.op = .load 23 x) (b : Nat) (hx : a.eval x = .pointer (some ⟨b, 0, none⟩)) (zs : List Int)
    (hC : ∀ w, C w → w.rangeAt b 0 (vals zs)) (hl : zs.length = 16) (hk : K (a.put o.dst (.agg (vals zs).toArray))) : o.quiet Try.prog a C K :=
  ⟨_, fun w hw => by
    unfold Oper.quietAt execOp
    simp only [ho, hx, Instr.loadAt, Instr.sureAddr, Sem.run_bind, Sem.run_pure, Result.andThen_ok, run_loadVar_mid w b 0 23 (vals zs) _ (hC w hw) Try.underlying23 rfl (vec_info_of hl)]
    exact ⟨rfl, rfl⟩, hk⟩
end Go.Proofs.Ytpbjencigepnfaa
