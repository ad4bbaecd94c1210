/- What scanning tells, by letters; rows of slices, one by one. -/
import Derived.Test.YtnbhgnkkedainaaDoorFd
namespace Go.Proofs.YtnbhgnkkedainaaDoor
open Go.ChangeShapes Go.WideShapes Go.ChangeAt Go.RowKit

theorem Scans.at {w w' : World} {l : List UInt8} {e : Ending} (h : Scans w l e w') {M : List (List UInt8)} {N : Nat} (hM : scn l = M) (hN : (fls M).length = N) : ∃ A c L, (e = .returned (.tuple #[.slice A M.length c, .int .i64 (N : Int)]) ∧ M.length ≤ c) ∧ txt L = M ∧ KL w (.slice A M.length c) L w' := by
  subst hM; subst hN
  obtain ⟨A, c, L, ⟨rfl, hc⟩, h2, h3⟩ := h
  have h4 : L.length = (scn l).length := by rw [← h2, txt_length]
  rw [h4] at h3 hc ⊢
  exact ⟨A, c, L, ⟨rfl, hc⟩, h2, h3⟩
theorem txt_get {L : List BPart} {M : List (List UInt8)} (h : txt L = M) {m : Nat} (hm : m < M.length) : ∃ A c, L[m]? = some (A, c, M.getD m []) := by
  subst h
  rw [txt_length] at hm
  refine ⟨L[m].1, L[m].2.1, ?_⟩
  rw [List.getElem?_eq_getElem hm]
  simp [txt, List.getD, hm]
/-- One of them: where it lies, and what its cell holds. -/
theorem KL.one {w0 w : World} {A : Option Addr} {n c : Nat} {L : List BPart} (h : KL w0 (.slice A n c) L w) {m : Nat} {A1 : Option Addr} {c1 : Nat} {T : List UInt8} (hm : L[m]? = some (A1, c1, T)) : ∃ g, A = some ⟨g, 0, none⟩ ∧ w.cell? ⟨g, m, none⟩ = some (.slice A1 T.length c1) ∧ Own w w0.heap.size (.slice A1 T.length c1) T := by
  have hlt : m < L.length := (List.getElem?_eq_some_iff.1 hm).1
  have ho := h.all _ (List.mem_of_getElem? hm)
  rcases h.own.2 with ⟨h1, h0⟩ | ⟨g, cap, cur, h1, h2, h3, _⟩
  · omega
  · injection h1 with e1 e2 e3
    subst e1
    refine ⟨g, rfl, ?_, ho⟩
    have := h.cell hm
    rwa [Nat.zero_add] at this
theorem KL.drewN {w0 w : World} {v : Value} {L : List BPart} (h : KL w0 v L w) (q : Nat) : KL w0 v L (w.drewN q) := h.call (below_dn _ q)
theorem ne_str {ops : Array Oper} {rest : List Oper} {o : Oper} {a : Act} {u : World} {Q : Exit → Act → World → Prop} {s t : ByteArray} {b : Bool} (hb : (s.toList == t.toList) = b) (hgd : o.guard = none) (x y : Operand) (ty : TypeId) (ho : o.op = .binOp .neq 9 x y ty) (hx : a.eval x = .string s) (hy : a.eval y = .string t)
    (h : wpList Tryd.prog ops Q rest (a.put o.dst (.bool !b)) u) : wpList Tryd.prog ops Q (o :: rest) a u :=
  wpList_plain hgd fun _ hK => wp_ne_str hb x y ty ho hx hy (hK _ _ h)
theorem yield_geq {ops : Array Oper} {S : World → Prop} {o : Oper} {a : Act} {p q : Int} (hb : q ≤ p) (x y : Operand) (t : TypeId) (ho : o.op = .binOp .geq 3 x y t) (hx : a.eval x = .int .i64 p) (hy : a.eval y = .int .i64 q) (hw : Region.wanted o (yielded ops a.tmps) = true) :
    YieldsIf Tryd.prog ops S o (.bool true) a :=
  .inl ⟨hw, fun w _ => by
    unfold execOp
    simp only [ho, hx, hy]
    simp [go_sem, hb]⟩
theorem yield_eqi {ops : Array Oper} {S : World → Prop} {o : Oper} {a : Act} {p : Int} (x y : Operand) (t : TypeId) (ho : o.op = .binOp .eql 3 x y t) (hx : a.eval x = .int .i64 p) (hy : a.eval y = .int .i64 p) (hw : Region.wanted o (yielded ops a.tmps) = true) :
    YieldsIf Tryd.prog ops S o (.bool true) a :=
  .inl ⟨hw, fun w _ => by
    unfold execOp
    simp only [ho, hx, hy]
    simp [go_sem]⟩
end Go.Proofs.YtnbhgnkkedainaaDoor
