/- What the statements stand on: the listed table, slices of bytes that come in, texts held against one another. -/
import Derived.Test.YtnbhgnkkedainaaDoorDp
import Derived.OpenShut
import Derived.ShutString
import Derived.ChangeOld
import Derived.ChangeSlices
import Derived.LaidMore
import Derived.SizedLaws
import Derived.Stop.Joined
namespace Go.Proofs.YtnbhgnkkedainaaDoor
open Go.ChangeShapes Go.WideShapes Go.ChangeAt Go.RowKit

theorem own : ownKnob Tryd.prog.godebug = none := by kernel_rfl
theorem laidOut : laidOutB Tryd.prog = true := by kernel_rfl
/-- What is listed. -/
def laid : List (String × DataW Unit) := [("usufruct/frame.nibbles", Rows.laid_usufruct_frame_nibbles)]
theorem gNib : Tryd.prog.globalNamed "usufruct/frame.nibbles" = some 0 := by kernel_rfl
theorem tNib : (Tryd.prog.globals[0]?).map (·.type) = some 75 := by kernel_rfl
theorem door_met (os : Os) (args : Array Value) : laidMetH Tryd.prog laid ((World.doorLaid Tryd.prog 400 os).forCall (fun _ _ => 0) ⟨#[], args, []⟩).memory :=
  laidMetH_of_parts3 (fuel := 8) (laidMet_of_run' 8 (by kernel_rfl) (by kernel_rfl)) (by kernel_rfl) (by kernel_rfl)
/-- Where the listed table reads as it is listed it lies in memory so. -/
theorem nib_of_laid {W : World} (h : laidMetH Tryd.prog laid W) : Nib W := by
  rw [MakeChecks.laidMetH_plain _ _ _ (by kernel_rfl)] at h
  obtain ⟨ps, ⟨g0, t0, cs0, f0, p0, q0, hg0, ht0, hv0, hd0, _, _⟩, _, _⟩ := h
  obtain rfl := Option.some.inj (gNib.symm.trans hg0)
  obtain rfl := Option.some.inj (tNib.symm.trans ht0)
  obtain ⟨xs, m1, rfl, hx1, hlen, hn, hel⟩ := DataW.trod_array Tryd.underlying75 hd0
  have c4 : Tryd.prog.cellsOf 68 = 1 := by kernel_rfl
  have c16 : Tryd.prog.cellsOf 75 = 16 := by kernel_rfl
  rw [c16] at hlen
  intro i hi
  have hiq := hel i hi
  rw [c4, Nat.mul_one] at hiq
  have hxi : xs[i]? = some xs[i] := List.getElem?_eq_getElem (by omega)
  rw [hxi] at hiq
  obtain ⟨k, e1, e2, _⟩ := DataW.trod_int Tryd.underlying68 hiq
  simp only [Prod.mk.injEq] at hx1
  have h1 := hx1.1
  have hk : k = (nib i : Int) := by
    have h2 : (Rows.laid_usufruct_frame_nibbles : DataW Unit) = .agg (xs.map (·.1)) := h1
    have h3 : xs.map (·.1) = tab.map fun z => .lit (.int .u32 (z : Int)) := by
      unfold Rows.laid_usufruct_frame_nibbles at h2
      injection h2 with h2
      rw [← h2]; rfl
    have h4 := congrArg (fun l => l[i]?) h3
    simp only [List.getElem?_map, hxi, Option.map_some, e2] at h4
    have h5 : i < tab.length := hi
    rw [List.getElem?_eq_getElem h5] at h4
    simp only [Option.map_some, Option.some.injEq] at h4
    injection h4 with h4
    injection h4 with _ h4
    rw [h4]
    simp [nib, List.getD, h5]
  subst hk
  have hc := World.var?_cell hg0 hv0 i
  have hci : cs0.toList[i]? = some (.int .u32 (nib i : Int)) := by
    have := congrArg (fun l => l[0]?) e1
    simpa using this
  rw [hc]
  simpa using hci
theorem toNat_ofInt {z : Int} (h0 : 0 ≤ z) (h1 : z < 256) : ((UInt8.ofNat z.toNat).toNat : Int) = z := by
  rw [of_small (by omega)]; omega
theorem u8_wf {z : Int} (h : (Lit.int .u8 z).wf = true) : 0 ≤ z ∧ z < 256 := by
  simp [Lit.wf] at h
  have e1 : IntKind.u8.min = 0 := by decide
  have e2 : IntKind.u8.max = 255 := by decide
  omega
/-- A slice of bytes that comes in. -/
theorem open_b {H : Type} {enc : TypeId × Value → H} {W : World} {b b' : Nat} {sp : Nat → Bool} {held : Bool} {v : Value} {d : DataW H} {p : List MemPlace} (hval : Value.okWide Tryd.prog W .any b' 34 v)
    (h : DataW.Trod enc Tryd.prog W b sp held 34 v d p) : ∃ A n c l, v = .slice A n c ∧ l.length = n ∧ n ≤ c ∧ c ≤ maxLen ∧ Bys W A l := by
  obtain ⟨A, n, c, rfl⟩ := okWide_slice Tryd.underlying34 hval
  obtain ⟨fuel, hf⟩ := h
  rcases open_ints Tryd.underlying34 Tryd.underlying5 (by kernel_rfl) hf with ⟨hcs, _⟩ | ⟨x, l, c, zs, hcs, _, hl, hm, hz, _, hcell, hwf⟩
  · simp [Value.cells] at hcs
    obtain ⟨rfl, rfl, rfl⟩ := hcs
    exact ⟨none, 0, 0, [], rfl, rfl, Nat.le_refl _, by simp, .inl rfl⟩
  · simp [Value.cells] at hcs
    obtain ⟨rfl, rfl, rfl⟩ := hcs
    have hnz : n ≤ zs.length := by rw [hz]; split <;> omega
    refine ⟨some x, n, _, (zs.take n).map fun z => UInt8.ofNat z.toNat, rfl, by simp; omega, hl, hm, ?_⟩
    rcases Nat.eq_zero_or_pos n with h0 | h0
    · left; rw [h0]; rfl
    · obtain ⟨b0, off, rfl, hc'⟩ := ints_at hcell (by omega)
      refine .inr ⟨b0, off, rfl, fun i hi => ?_⟩
      have hi' : i < n := by simp at hi; omega
      rw [hc' i (by omega)]
      have hz1 : i < zs.length := by omega
      have hw := hwf (zs.getD i 0) (by rw [List.getD_eq_getElem?_getD, List.getElem?_eq_getElem hz1]; exact List.getElem_mem hz1)
      have hw2 := u8_wf hw
      have e : ((zs.take n).map fun z => UInt8.ofNat z.toNat).getD i 0 = UInt8.ofNat (zs.getD i 0).toNat := by
        simp [List.getD, hi', hz1]
      rw [e, toNat_ofInt hw2.1 hw2.2]
/-- What the form's own reach says of its length. -/
theorem reach_b {H : Type} {enc : TypeId × Value → H} {W : World} {b : Nat} {sp : Nat → Bool} {held : Bool} {A : Option Addr} {n c : Nat} {d : DataW H} {p : List MemPlace}
    (h : DataW.Trod enc Tryd.prog W b sp held 34 (.slice A n c) d p) {ts : List TypeId} {ds : List (DataW H)} (hsz : (DataW.weightsEach Tryd.prog ts ds).all (· ≤ reachBytes) = true) {j : Nat} (ht : ts[j]? = some 34) (hd : ds[j]? = some d) : n ≤ 140737488351232 := by
  obtain ⟨fuel, hf⟩ := h
  rcases open_ints Tryd.underlying34 Tryd.underlying5 (by kernel_rfl) hf with ⟨hcs, _⟩ | ⟨x, l, c, zs, hcs, _, hl, hm, hz, hx, _, _⟩
  · simp [Value.cells] at hcs
    omega
  · simp [Value.cells] at hcs
    obtain ⟨rfl, rfl, rfl⟩ := hcs
    have hnz : n ≤ zs.length := by rw [hz]; split <;> omega
    simp only [Prod.mk.injEq] at hx
    obtain ⟨rfl, _⟩ := hx
    have h1 := sized_slice hsz ht hd Tryd.underlying34
    rw [show Tryd.prog.bytesOf 5 = 1 by kernel_rfl] at h1
    have h2 : reachBytes = 140737488351232 := by decide
    simp [lits] at h1
    omega
theorem wp_eq_str {o : Oper} {a : Act} {u : World} {K : Act → World → Prop} {Q : Exit → Act → World → Prop} {s t : ByteArray} {b : Bool} (hb : (s.toList == t.toList) = b) (x y : Operand) (ty : TypeId) (ho : o.op = .binOp .eql 9 x y ty) (hx : a.eval x = .string s) (hy : a.eval y = .string t)
    (h : K (a.put o.dst (.bool b)) u) : o.wp Tryd.prog a u K Q := by
  subst hb
  unfold Oper.wp execOp
  simp only [ho, hx, hy]
  simp [go_sem]
  simpa [Act.put] using h
theorem wp_ne_str {o : Oper} {a : Act} {u : World} {K : Act → World → Prop} {Q : Exit → Act → World → Prop} {s t : ByteArray} {b : Bool} (hb : (s.toList == t.toList) = b) (x y : Operand) (ty : TypeId) (ho : o.op = .binOp .neq 9 x y ty) (hx : a.eval x = .string s) (hy : a.eval y = .string t)
    (h : K (a.put o.dst (.bool !b)) u) : o.wp Tryd.prog a u K Q := by
  subst hb
  unfold Oper.wp execOp
  simp only [ho, hx, hy]
  simp [go_sem]
  simpa [Act.put] using h
theorem eq_str {ops : Array Oper} {rest : List Oper} {o : Oper} {a : Act} {u : World} {Q : Exit → Act → World → Prop} {s t : ByteArray} {b : Bool} (hb : (s.toList == t.toList) = b) (hgd : o.guard = none) (x y : Operand) (ty : TypeId) (ho : o.op = .binOp .eql 9 x y ty) (hx : a.eval x = .string s) (hy : a.eval y = .string t)
    (h : wpList Tryd.prog ops Q rest (a.put o.dst (.bool b)) u) : wpList Tryd.prog ops Q (o :: rest) a u :=
  wpList_plain hgd fun _ hK => wp_eq_str hb x y ty ho hx hy (hK _ _ h)
theorem eq_str_want {ops : Array Oper} {rest : List Oper} {o : Oper} {a : Act} {u : World} {Q : Exit → Act → World → Prop} {s t : ByteArray} {b : Bool} (hb : (s.toList == t.toList) = b) (x y : Operand) (ty : TypeId) (ho : o.op = .binOp .eql 9 x y ty) (hx : a.eval x = .string s) (hy : a.eval y = .string t)
    (hw : Region.wanted o (yielded ops a.tmps) = true) (h : wpList Tryd.prog ops Q rest (a.put o.dst (.bool b)) u) : wpList Tryd.prog ops Q (o :: rest) a u :=
  BigFrame.wpList_want hw fun _ hK => wp_eq_str hb x y ty ho hx hy (hK _ _ h)
theorem same_str {s t : ByteArray} (h : s = t) : (s.toList == t.toList) = true := by subst h; simp
end Go.Proofs.YtnbhgnkkedainaaDoor
