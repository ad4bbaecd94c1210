/- What the statements stand on: slices of bytes and of ints that come in, texts, the parts of regions that draw their order. -/
import Derived.Test.YtphoaklbjljfnaaOa
import Derived.OpenShut
import Derived.ShutString
import Derived.ChangeOld
import Derived.ChangeSlices
namespace Go.Proofs.Ytphoaklbjljfnaa
open Go.ChangeShapes Go.WideShapes Go.ChangeAt Go.RowKit

theorem toNat_ofInt {z : Int} (h0 : 0 ≤ z) (h1 : z < 256) : ((UInt8.ofNat z.toNat).toNat : Int) = z := by
  rw [of_small (by omega)]; omega
theorem u8_wf {z : Int} (h : (Lit.int .u8 z).wf = true) : 0 ≤ z ∧ z < 256 := by
  simp [Lit.wf] at h
  have e1 : IntKind.u8.min = 0 := by decide
  have e2 : IntKind.u8.max = 255 := by decide
  omega
/-- A slice of bytes that comes in. -/
theorem open_b {H : Type} {enc : TypeId × Value → H} {W : World} {b b' : Nat} {sp : Nat → Bool} {held : Bool} {v : Value} {d : DataW H} {p : List MemPlace} (hval : Value.okWide Try.prog W .any b' 22 v)
    (h : DataW.Trod enc Try.prog W b sp held 22 v d p) : ∃ A n c l, v = .slice A n c ∧ l.length = n ∧ n ≤ c ∧ c ≤ maxLen ∧ Bys W A l := by
  obtain ⟨A, n, c, rfl⟩ := okWide_slice Try.underlying22 hval
  obtain ⟨fuel, hf⟩ := h
  rcases open_ints Try.underlying22 Try.underlying5 (by kernel_rfl) hf with ⟨hcs, _⟩ | ⟨x, l, c, zs, hcs, _, hl, hm, hz, _, hcell, hwf⟩
  · simp [Value.cells] at hcs
    obtain ⟨rfl, rfl, rfl⟩ := hcs
    exact ⟨none, 0, 0, [], rfl, rfl, Nat.le_refl _, by simp, .inl rfl⟩
  · simp [Value.cells] at hcs
    obtain ⟨rfl, rfl, rfl⟩ := hcs
    have hnz : n ≤ zs.length := by rw [hz]; split <;> omega
    refine ⟨some x, n, _, (zs.take n).map fun z => UInt8.ofNat z.toNat, rfl, by simp; omega, hl, hm, ?_⟩
    rcases Nat.eq_zero_or_pos n with h0 | h0
    · left; rw [h0]; rfl
    · obtain ⟨b0, off, rfl, hc'⟩ := ints_at hcell (by omega)
      refine .inr ⟨b0, off, rfl, fun i hi => ?_⟩
      have hi' : i < n := by simp at hi; omega
      rw [hc' i (by omega)]
      have hz1 : i < zs.length := by omega
      have hw := hwf (zs.getD i 0) (by rw [List.getD_eq_getElem?_getD, List.getElem?_eq_getElem hz1]; exact List.getElem_mem hz1)
      have hw2 := u8_wf hw
      have e : ((zs.take n).map fun z => UInt8.ofNat z.toNat).getD i 0 = UInt8.ofNat (zs.getD i 0).toNat := by
        simp [List.getD, hi', hz1]
      rw [e, toNat_ofInt hw2.1 hw2.2]
/-- A slice of ints that comes in. -/
def Reads (w : World) (A : Option Addr) (n : Nat) (x : List Int) : Prop := x.length = n ∧ n ≤ maxLen ∧ (n = 0 ∨ ∃ b off : Nat, A = some ⟨b, off, none⟩ ∧ ∀ i, i < n → w.cell? ⟨b, off + i, none⟩ = some (.int .i64 (x.getD i 0)))
theorem open_is {H : Type} {enc : TypeId × Value → H} {W : World} {b b' : Nat} {sp : Nat → Bool} {held : Bool} {v : Value} {d : DataW H} {p : List MemPlace} (hval : Value.okWide Try.prog W .any b' 37 v)
    (h : DataW.Trod enc Try.prog W b sp held 37 v d p) : ∃ A n c x, v = .slice A n c ∧ Reads W A n x := by
  obtain ⟨A, n, c, rfl⟩ := okWide_slice Try.underlying37 hval
  obtain ⟨fuel, hf⟩ := h
  rcases open_ints Try.underlying37 Try.underlying3 (by kernel_rfl) hf with ⟨hcs, _⟩ | ⟨x, l, c, zs, hcs, _, hl, hm, hz, _, hcell, _⟩
  · simp [Value.cells] at hcs
    obtain ⟨rfl, rfl, rfl⟩ := hcs
    exact ⟨none, 0, 0, [], rfl, rfl, by simp, .inl rfl⟩
  · simp [Value.cells] at hcs
    obtain ⟨rfl, rfl, rfl⟩ := hcs
    have hnz : n ≤ zs.length := by rw [hz]; split <;> omega
    refine ⟨some x, n, _, zs.take n, rfl, by simp; omega, by omega, ?_⟩
    rcases Nat.eq_zero_or_pos n with h0 | h0
    · exact .inl h0
    · obtain ⟨b0, off, rfl, hc'⟩ := ints_at hcell (by omega)
      exact .inr ⟨b0, off, rfl, fun i hi => by rw [hc' i (by omega)]; simp [List.getD, hi]⟩
theorem Reads.below {w w' : World} {A : Option Addr} {n : Nat} {x : List Int} (h : Reads w A n x) (hb : Below w.heap.size w w') : Reads w' A n x := by
  obtain ⟨h1, h2, h3⟩ := h
  refine ⟨h1, h2, h3.imp_right fun ⟨b, off, e, hc⟩ => ⟨b, off, e, fun i hi => ?_⟩⟩
  have := hc i hi
  rw [World.cell?_of_block (w := w) (w' := w') (hb.block b (cell_lt this))]; exact this
section
variable {P : Program} {ops : Array Oper} {Q : Exit → Act → World → Prop} {S S' : World → Prop} {n : Nat}
/-- What is kept may be told more closely from here on. -/
theorem Draws.more (hS : ∀ w, S' w → S w) : ∀ (fuel : Nat) (listed : Array Bool) (a : Act) (w : World), Draws P ops Q S' n fuel listed a w → Draws P ops Q S n fuel listed a w
  | 0, _, _, _, h => h
  | fuel + 1, _, _, _, h => ⟨h.1, fun i hi => wpOp_mono (fun a' w' h' => ⟨fun hn => hS _ (h'.1 hn), Draws.more hS fuel _ a' w' h'.2⟩) (h.2 i hi)⟩
end
theorem yield_str {ops : Array Oper} {S : World → Prop} {a : Act} {o : Oper} {A : Option Addr} {l : List UInt8} (hS : ∀ w, S w → Bys w A l) {k : Nat} (hk : l.length = k) (x : Operand) (ho : o.op = .convert 22 9 x) {c : Nat} (hx : a.eval x = .slice A k c)
    (hw : Region.wanted o (yielded ops a.tmps) = true) : YieldsIf Try.prog ops S o (.string ⟨l.toArray⟩) a := by
  subst hk
  refine .inl ⟨hw, fun w' hw' => ?_⟩
  unfold execOp
  simp only [ho, hx]
  simp [go_sem, run_str (hS w' hw') c]
theorem yield_gtr {ops : Array Oper} {S : World → Prop} {o : Oper} {a : Act} {p q : Int} {b : Bool} (hb : decide (q < p) = b) (x y : Operand) (t : TypeId) (ho : o.op = .binOp .gtr 3 x y t) (hx : a.eval x = .int .i64 p) (hy : a.eval y = .int .i64 q) (hw : Region.wanted o (yielded ops a.tmps) = true) :
    YieldsIf Try.prog ops S o (.bool b) a :=
  .inl ⟨hw, fun w _ => by
    subst hb
    unfold execOp
    simp only [ho, hx, hy]
    simp [go_sem]⟩
theorem yield_eqs {ops : Array Oper} {S : World → Prop} {o : Oper} {a : Act} {s t : ByteArray} {b : Bool} (hb : (s.toList == t.toList) = b) (x y : Operand) (ty : TypeId) (ho : o.op = .binOp .eql 9 x y ty) (hx : a.eval x = .string s) (hy : a.eval y = .string t) (hw : Region.wanted o (yielded ops a.tmps) = true) :
    YieldsIf Try.prog ops S o (.bool b) a :=
  .inl ⟨hw, fun w _ => by
    subst hb
    unfold execOp
    simp only [ho, hx, hy]
    simp [go_sem]⟩
theorem yield_nes {ops : Array Oper} {S : World → Prop} {o : Oper} {a : Act} {s t : ByteArray} {b : Bool} (hb : (s.toList == t.toList) = b) (x y : Operand) (ty : TypeId) (ho : o.op = .binOp .neq 9 x y ty) (hx : a.eval x = .string s) (hy : a.eval y = .string t) (hw : Region.wanted o (yielded ops a.tmps) = true) :
    YieldsIf Try.prog ops S o (.bool !b) a :=
  .inl ⟨hw, fun w _ => by
    subst hb
    unfold execOp
    simp only [ho, hx, hy]
    simp [go_sem]⟩
theorem adds_eq (l m : List UInt8) : (⟨l.toArray⟩ ++ ⟨m.toArray⟩ : ByteArray) = ⟨(l ++ m).toArray⟩ := ByteArray.ext (by simp)
theorem yield_adds {ops : Array Oper} {S : World → Prop} {o : Oper} {a : Act} {l m : List UInt8} (hs : l.length + m.length ≤ 100000) (x y : Operand) (ty : TypeId) (ho : o.op = .binOp .add 9 x y ty) (hx : a.eval x = .string ⟨l.toArray⟩) (hy : a.eval y = .string ⟨m.toArray⟩) (hw : Region.wanted o (yielded ops a.tmps) = true) :
    YieldsIf Try.prog ops S o (.string ⟨(l ++ m).toArray⟩) a :=
  .inl ⟨hw, fun w _ => by
    unfold execOp
    simp only [ho, hx, hy]
    simp [go_sem]
    rw [if_neg (by omega), adds_eq]⟩
theorem high0 (A : Option Addr) (c : Nat) : (if c = 0 then A else A.map (·.add 0)) = A := by
  split
  · rfl
  · cases A with
    | none => rfl
    | some a => rfl
theorem yield_high {ops : Array Oper} {S : World → Prop} {o : Oper} {a : Act} {A : Option Addr} {n c K : Nat} (hK : K ≤ c) (x y : Operand) (ho : o.op = .slice 22 x none (some y) none) (hx : a.eval x = .slice A n c) (hy : a.eval y = .int .i64 (K : Int)) (hw : Region.wanted o (yielded ops a.tmps) = true) :
    YieldsIf Try.prog ops S o (.slice A K c) a :=
  .inl ⟨hw, fun w _ => by
    unfold execOp
    have h := slice_high A n c K hK w
    rw [high0] at h
    simp only [ho, hx, Option.map_some, Option.map_none, hy, Sem.run_bind]
    simp [Instr.sliceAt, h]⟩
theorem Bys.drew {w : World} {A : Option Addr} {l : List UInt8} (h : Bys w A l) : Bys w.drew A l := h.keep fun _ _ _ => rfl
/-- Bytes that are kept, each at its place. -/
structure KB (w0 : World) (L : List (Option Addr × List UInt8)) (u : World) : Prop where
  bel : Below w0.heap.size w0 u
  all : ∀ x ∈ L, Bys u x.1 x.2
theorem KB.call {w0 u u' : World} {L : List (Option Addr × List UInt8)} (h : KB w0 L u) (hb : Below u.heap.size u u') : KB w0 L u' := ⟨h.bel.trans (hb.mono h.bel.size), fun x hx => (h.all x hx).below hb⟩
theorem KB.add {w0 u : World} {L : List (Option Addr × List UInt8)} (h : KB w0 L u) {A : Option Addr} {l : List UInt8} (hy : Bys u A l) : KB w0 ((A, l) :: L) u := ⟨h.bel, fun x hx => by
  rcases List.mem_cons.1 hx with rfl | hx
  · exact hy
  · exact h.all x hx⟩
theorem KB.tail {w0 u : World} {x : Option Addr × List UInt8} {L : List (Option Addr × List UInt8)} (h : KB w0 (x :: L) u) : KB w0 L u := ⟨h.bel, fun y hy => h.all y (List.mem_cons_of_mem _ hy)⟩
theorem KB.get {w0 u : World} {L : List (Option Addr × List UInt8)} (h : KB w0 L u) (i : Nat) {A : Option Addr} {l : List UInt8} (hi : L[i]? = some (A, l)) : Bys u A l := h.all (A, l) (List.mem_of_getElem? hi)
theorem KB.drew {w0 u : World} {L : List (Option Addr × List UInt8)} (h : KB w0 L u) : KB w0 L u.drew := h.call (Below.refl _ _).drew
end Go.Proofs.Ytphoaklbjljfnaa
