/- A byte of a row of the call's own is stored; texts of bytes held against one another; what a disk that is not there tells. -/
import Derived.Test.YtglhjfcngpednaaDy
namespace Go.Proofs.Ytglhjfcngpednaa
open Go.ChangeShapes Go.WideShapes Go.ChangeAt Go.RowKit

theorem Own.row {w : World} {base n c : Nat} {A : Option Addr} {l : List UInt8} (h : Own w base (.slice A n c) l) (h0 : 0 < l.length) : ∃ g, A = some ⟨g, 0, none⟩ := by
  rcases h.2 with ⟨_, h1⟩ | ⟨g, cap, cur, h1, _⟩
  · omega
  · injection h1 with h1
    exact ⟨g, h1⟩
theorem Own.cell {w : World} {base g n c : Nat} {l : List UInt8} (h : Own w base (.slice (some ⟨g, 0, none⟩) n c) l) {k : Nat} (hk : k < l.length) : w.cell? ⟨g, k, none⟩ = some (.int .u8 ((l.getD k 0).toNat : Int)) := by
  have := h.cells (g := g) rfl k _ (bys_get hk)
  rw [Go.WideShapes.add_plain] at this
  simpa using this
theorem bys_set (l : List UInt8) (k : Nat) (d : UInt8) : (bys l).set k (.int .u8 (d.toNat : Int)) = bys (l.set k d) := by simp [bys, List.map_set]
theorem Own.set {w : World} {base g n c : Nat} {l : List UInt8} (h : Own w base (.slice (some ⟨g, 0, none⟩) n c) l) (hn : l.length = n) (k : Nat) (d : UInt8) : Own (w.setCell ⟨g, k, none⟩ (.int .u8 (d.toNat : Int))) base (.slice (some ⟨g, 0, none⟩) n c) (l.set k d) := by
  subst hn
  obtain ⟨h1, _⟩ := World.ownsRow.stored h k (.int .u8 (d.toNat : Int))
  unfold Own
  rw [← bys_set, List.length_set]
  exact h1
theorem Own.frozen {w : World} {base g n c : Nat} {l : List UInt8} (h : Own w base (.slice (some ⟨g, 0, none⟩) n c) l) (hn : l.length = n) (k : Nat) : w.frozen? ⟨g, k, none⟩ = false := by
  subst hn
  exact World.ownsRow.frozenAt h k
/-- A byte of a row alone is another one. -/
theorem Kf.setByte {w u : World} {F : Nat → Prop} {l : List (Nat × TypeId × List Value)} {ds : List Ent} {rows : List (Option Addr × List UInt8)} (h : Kf w F l ds rows u) (i : Nat) {g n c : Nat} {m : List UInt8} (hi : ds[i]? = some ⟨none, 0, 0, .slice (some ⟨g, 0, none⟩) n c, m⟩) (hn : m.length = n) (k : Nat) (d : UInt8) :
    Kf w F l (ds.set i ⟨none, 0, 0, .slice (some ⟨g, 0, none⟩) n c, m.set k d⟩) rows (u.setCell ⟨g, k, none⟩ (.int .u8 (d.toNat : Int))) :=
  h.move i hi rfl rfl rfl (by simp) (fun j _ hj => heap_setCell_other u ⟨g, k, none⟩ j _ (fun e => hj (.inr (by simp only at e; subst e; rfl)))) ⟨(h.entAt i hi).own.set hn k d, fun r hr => by cases hr⟩ (fun j hj => .inl hj)
theorem store_b {w u : World} {F : Nat → Prop} {l : List (Nat × TypeId × List Value)} {ds : List Ent} {rows : List (Option Addr × List UInt8)} {ops : Array Oper} {rest : List Oper} {o : Oper} {a : Act} {Q : Exit → Act → World → Prop}
    (h : Kf w F l ds rows u) (i : Nat) {g n c : Nat} {m : List UInt8} (hi : ds[i]? = some ⟨none, 0, 0, .slice (some ⟨g, 0, none⟩) n c, m⟩) (hn : m.length = n) {k : Nat} (hk : k < n) (d : UInt8) {z : Int} (hz : z = (d.toNat : Int))
    (hgd : o.guard = none) (hd : o.dst = none) (x y : Operand) (ho : o.op = .store 5 x y) (hx : a.eval x = .pointer (some ⟨g, k, none⟩)) (hy : a.eval y = .int .u8 z)
    (hQ : ∀ u', Kf w F l (ds.set i ⟨none, 0, 0, .slice (some ⟨g, 0, none⟩) n c, m.set k d⟩) rows u' → wpList Try.prog ops Q rest a u') : wpList Try.prog ops Q (o :: rest) a u :=
  wpList_plain hgd fun K hK => by
    subst hz
    have hc := (h.entAt i hi).own.cell (k := k) (by simp only; omega)
    have hf := (h.entAt i hi).own.frozen hn k
    have := hK _ _ (hQ _ (h.setByte i hi hn k d))
    unfold Oper.wp execOp
    simp only [ho, hx, hy]
    simp [go_sem, hc, hf]
    simpa [hd, Act.put] using this
theorem u8_of (z : Int) : ∃ d : UInt8, IntKind.u8.wrap z = (d.toNat : Int) := by
  have h0 : 0 ≤ IntKind.u8.wrap z ∧ IntKind.u8.wrap z < 256 := by
    rw [IntKind.wrap_u8]
    omega
  exact ⟨UInt8.ofNat (IntKind.u8.wrap z).toNat, (toNat_ofInt h0.1 h0.2).symm⟩
theorem ne_str_want {ops : Array Oper} {rest : List Oper} {o : Oper} {a : Act} {u : World} {Q : Exit → Act → World → Prop} {s : ByteArray} (x y : Operand) (ty : TypeId) (ho : o.op = .binOp .neq 9 x y ty) (hx : a.eval x = .string s) (hy : a.eval y = .string s) (hw : Region.wanted o (yielded ops a.tmps) = true)
    (h : wpList Try.prog ops Q rest (a.put o.dst (.bool false)) u) : wpList Try.prog ops Q (o :: rest) a u :=
  BigFrame.wpList_want hw fun K hK => by
    have h1 := hK _ _ h
    unfold Oper.wp execOp
    simp only [ho, hx, hy]
    simp [go_sem]
    exact h1
end Go.Proofs.Ytglhjfcngpednaa
