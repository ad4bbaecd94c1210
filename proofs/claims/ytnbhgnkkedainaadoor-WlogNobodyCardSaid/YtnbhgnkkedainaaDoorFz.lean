/- A byte of a row of the call's own is stored; frames of which one byte is another one. -/
import Derived.Test.YtnbhgnkkedainaaDoorFl
namespace Go.Proofs.YtnbhgnkkedainaaDoor
open Go.ChangeShapes Go.WideShapes Go.ChangeAt Go.RowKit

theorem KO.row {w0 w : World} {v : Value} {l : List UInt8} (h : KO w0 v l w) (h0 : 0 < l.length) : ∃ g c, v = .slice (some ⟨g, 0, none⟩) l.length c ∧ l.length ≤ c := by
  rcases h.own.2 with ⟨_, h1⟩ | ⟨g, cap, cur, rfl, _, _, h1, _⟩
  · omega
  · exact ⟨g, cap, rfl, h1⟩
theorem MakesE.row {w w' : World} {l : List UInt8} {e : Ending} (h : MakesE w l e w') (h0 : 0 < l.length) : ∃ g c, e = .returned (.tuple #[.slice (some ⟨g, 0, none⟩) l.length c, .int .i64 0]) ∧ l.length ≤ c ∧ KO w (.slice (some ⟨g, 0, none⟩) l.length c) l w' := by
  obtain ⟨A, c, ⟨rfl, _⟩, hk⟩ := h
  obtain ⟨g, c', hv, hc⟩ := hk.row h0
  injection hv with e1 e2 e3
  subst e1; subst e3
  exact ⟨g, c, rfl, hc, hk⟩
theorem KO.cell {w0 w : World} {g n c : Nat} {l : List UInt8} (h : KO w0 (.slice (some ⟨g, 0, none⟩) n c) l w) {k : Nat} (hk : k < l.length) : w.cell? ⟨g, k, none⟩ = some (.int .u8 ((l.getD k 0).toNat : Int)) := by
  have := h.own.cells (g := g) rfl k _ (bys_get hk)
  rw [Go.WideShapes.add_plain] at this
  simpa using this
theorem KO.frozen {w0 w : World} {g n c : Nat} {l : List UInt8} (h : KO w0 (.slice (some ⟨g, 0, none⟩) n c) l w) (hn : l.length = n) (k : Nat) : w.frozen? ⟨g, k, none⟩ = false := by
  subst hn
  exact World.ownsRow.frozenAt h.own k
theorem bys_set (l : List UInt8) (k : Nat) (d : UInt8) : (bys l).set k (.int .u8 (d.toNat : Int)) = bys (l.set k d) := by simp [bys, List.map_set]
theorem KO.set {w0 w : World} {g n c : Nat} {l : List UInt8} (h : KO w0 (.slice (some ⟨g, 0, none⟩) n c) l w) (hn : l.length = n) (k : Nat) (d : UInt8) : KO w0 (.slice (some ⟨g, 0, none⟩) n c) (l.set k d) (w.setCell ⟨g, k, none⟩ (.int .u8 (d.toNat : Int))) := by
  subst hn
  obtain ⟨h1, h2⟩ := World.ownsRow.stored h.own k (.int .u8 (d.toNat : Int))
  refine ⟨h.bel.grown h2 h.bel.size fun j hj => ?_, ?_⟩
  · injection hj with hj; subst hj
    exact h.own.base g rfl
  · unfold Own
    rw [← bys_set, List.length_set]
    exact h1
theorem store_byte {ops : Array Oper} {rest : List Oper} {o : Oper} {a : Act} {w0 w : World} {Q : Exit → Act → World → Prop} {g n c : Nat} {l : List UInt8} (h : KO w0 (.slice (some ⟨g, 0, none⟩) n c) l w) (hn : l.length = n) {k : Nat} (hk : k < n) (d : UInt8) {z : Int} (hz : z = (d.toNat : Int))
    (hgd : o.guard = none) (hd : o.dst = none) (x y : Operand) (ho : o.op = .store 5 x y) (hx : a.eval x = .pointer (some ⟨g, k, none⟩)) (hy : a.eval y = .int .u8 z)
    (hQ : ∀ u, KO w0 (.slice (some ⟨g, 0, none⟩) n c) (l.set k d) u → wpList Tryd.prog ops Q rest a u) : wpList Tryd.prog ops Q (o :: rest) a w :=
  wpList_plain hgd fun K hK => by
    subst hz
    have hc := h.cell (k := k) (by omega)
    have hf := h.frozen hn k
    have := hK _ _ (hQ _ (h.set hn k d))
    unfold Oper.wp execOp
    simp only [ho, hx, hy]
    simp [go_sem, hc, hf]
    simpa [hd, Act.put] using this
theorem xor8 (z b : UInt8) : bits .xor .u8 (z.toNat : Int) (b.toNat : Int) = ((z ^^^ b).toNat : Int) := by
  rw [UInt8.toNat_xor]; exact u8_xor_nat _ _ z.toNat_lt b.toNat_lt
theorem xor8_ne {z b : UInt8} (h : b ≠ 0) : z ^^^ b ≠ z := fun e => h (by
  have e2 := congrArg UInt8.toNat e
  rw [UInt8.toNat_xor] at e2
  have e3 : b.toNat = 0 := xor_left (c := z.toNat) (by rw [e2, Nat.xor_zero])
  exact UInt8.toNat_inj.1 e3)
theorem u8_of {a : Int} (h : (Lit.int .u8 a).wf = true) : ∃ b : UInt8, a = (b.toNat : Int) := by
  obtain ⟨h0, h1⟩ := u8_wf h
  exact ⟨UInt8.ofNat a.toNat, (toNat_ofInt h0 h1).symm⟩
theorem drop_set_ge (l : List UInt8) (k j : Nat) (d : UInt8) (h : j ≤ k) : (l.set k d).drop j = (l.drop j).set (k - j) d := by
  apply List.ext_getElem?
  intro i
  simp only [List.getElem?_drop, List.getElem?_set, List.length_drop]
  by_cases h1 : k = j + i
  · subst h1
    simp only [Nat.add_sub_cancel_left, if_true]
    by_cases h2 : j + i < l.length
    · rw [if_pos h2, if_pos (by omega)]
    · rw [if_neg h2, if_neg (by omega)]
  · rw [if_neg h1, if_neg (by omega)]
theorem take_set_ge (l : List UInt8) (k j : Nat) (d : UInt8) (h : j ≤ k) : (l.set k d).take j = l.take j := by
  apply List.ext_getElem?
  intro i
  simp only [List.getElem?_take, List.getElem?_set]
  by_cases h1 : i < j
  · rw [if_pos h1, if_pos h1, if_neg (by omega)]
  · rw [if_neg h1, if_neg h1]
theorem dcd_set_ne {l : List UInt8} {k : Nat} {d : UInt8} (h4 : 4 ≤ l.length) (hk : k < 4) (hd : d ≠ l.getD k 0) : dcd (l.set k d) ≠ dcd l := fun e => by
  have h1 := dcd_take (l := l.set k d) (by rw [List.length_set]; exact h4)
  have h2 := dcd_take h4
  rw [e, h2] at h1
  have h3 := congrArg (fun x => x[k]?) h1
  simp only [List.getElem?_take, if_pos hk, List.getElem?_set, if_true] at h3
  rw [if_pos (by omega), List.getElem?_eq_getElem (by omega)] at h3
  injection h3 with h3
  exact hd (by simp [List.getD, show k < l.length by omega, h3])
/-- A frame of which one byte is another one is none, or one of another length, that byte being one of its length. -/
theorem turned {p : List UInt8} (hp : p.length ≤ 32768) {k : Nat} {d : UInt8} (hk : k < (frm p).length) (hd : d ≠ (frm p).getD k 0) (hz : tkE ((frm p).set k d) = 0) : k < 4 ∧ tkS ((frm p).set k d) ≠ (frm p).length := by
  have h8 := frm_length p
  have z1 : dcd (frm p) = p.length := by unfold frm; rw [List.append_assoc]; exact dcd_cod (by omega) _
  have z4 : (frm p).drop 4 = cod (crc p) ++ p := by unfold frm; simp [cod]
  have z8 : (frm p).drop 8 = p := by unfold frm; simp [cod]
  obtain ⟨y1, y2, y3, y4⟩ := tk_zero hz
  have hS : tkS ((frm p).set k d) = 8 + dcd ((frm p).set k d) := by rw [tkS, if_pos hz]
  by_cases k4 : k < 4
  · refine ⟨k4, ?_⟩
    have := dcd_set_ne (l := frm p) (by omega) k4 hd
    omega
  · exfalso
    have d0 : dcd ((frm p).set k d) = p.length := by
      rw [← z1, ← dcd_of_take (l := (frm p).set k d) (by rw [List.length_set]; omega) 4 (Nat.le_refl _), take_set_ge _ _ _ _ (by omega), dcd_of_take (by omega) 4 (Nat.le_refl _)]
    rw [d0] at y4
    by_cases k8 : k < 8
    · have e8 : ((frm p).set k d).drop 8 = p := by
        rw [List.drop_set_of_lt (by omega)]; exact z8
      rw [e8, List.take_length, drop_set_ge _ _ _ _ (by omega)] at y4
      have h4 : dcd ((frm p).drop 4) = crc p := by rw [z4]; exact dcd_cod (crc_lt p) _
      exact dcd_set_ne (l := (frm p).drop 4) (k := k - 4) (d := d) (by rw [List.length_drop]; omega) (by omega) (by
        rw [List.getD_eq_getElem?_getD, List.getElem?_drop, show 4 + (k - 4) = k by omega]; exact hd) (by rw [h4]; exact y4.symm)
    · have e4 : dcd (((frm p).set k d).drop 4) = crc p := by
        rw [drop_set_ge _ _ _ _ (by omega), z4, ← dcd_of_take (by simp [cod]) 4 (Nat.le_refl _), take_set_ge _ _ _ _ (by omega), dcd_of_take (by simp [cod]) 4 (Nat.le_refl _)]
        exact dcd_cod (crc_lt p) _
      rw [e4, drop_set_ge _ _ _ _ (by omega), z8, List.take_of_length_le (by rw [List.length_set]; exact Nat.le_refl _)] at y4
      refine crc_turned (l := p) (k := k - 8) (d := d) (by omega) ?_ y4
      rw [List.getD_eq_getElem?_getD, ← z8, List.getElem?_drop, show 8 + (k - 8) = k by omega, ← List.getD_eq_getElem?_getD]
      exact hd
end Go.Proofs.YtnbhgnkkedainaaDoor
