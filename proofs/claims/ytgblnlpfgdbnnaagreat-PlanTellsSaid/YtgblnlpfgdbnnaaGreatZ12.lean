/- Contracts of which hold goes ahead: cmp.Or, hold.byName, and the document's Ahead.; Fields in a row: where one is (plan.Find, the document's at), and whether they may be (plan.Fields, the document's Fields).; What comparisons of texts, bools and errors yield. -/
import Derived.Test.YtgblnlpfgdbnnaaGreatZ35
namespace Go.Proofs.YtgblnlpfgdbnnaaGreat
set_option maxRecDepth 100000
open Go.ChangeShapes Go.WideShapes Go.ChangeAt Go.RowKit

theorem yield_eql {ops : Array Oper} {S : World → Prop} {o : Oper} {a : Act} {p q : Int} {b : Bool} (hb : (p == q) = b) (x y : Operand) (t : TypeId) (ho : o.op = .binOp .eql 3 x y t) (hx : a.eval x = .int .i64 p) (hy : a.eval y = .int .i64 q) (hw : Region.wanted o (yielded ops a.tmps) = true) :
    YieldsIf Tryz.prog ops S o (.bool b) a :=
  .inl ⟨hw, fun w _ => by
    subst hb
    unfold execOp
    simp only [ho, hx, hy]
    simp [go_sem]⟩

/-! ### Where a field is. -/
theorem rng1 {w : World} {b o : Nat} {p : Pf} {A : Option Addr} {c : Nat} (h : w.rangeAt b o (p.fd A c).cells) : w.cell? ⟨b, o + 1, none⟩ = some (.int .i64 p.k) := h 1 _ Pf.ck
theorem at_any (A : Option Addr) (n c : Nat) (qs : List Q) (s : ByteArray) (hn : n ≤ 1000) (k : Int) (hk : (if isP (pfs qs) s then (findP (pfs qs) s : Int) else -1) = k) (w : World) (hd : FR w A n qs) :
    Calls Tryz.prog 48 #[.slice A n c, .string s] w fun e w' => e = .returned (.int .i64 k) ∧ Below w.heap.size w w' := by
  have HD := Lib.hid hd; clear hd
  have HRK := Lib.hid hk; clear hk
  go_enter Tryz.func48, Tryz.ntmps48
  go_wp2
  go_loop [5] (fun i => ∃ m : Nat, m ≤ n ∧ i = .int .i64 m ∧ ∀ j q, j < m → (pfs qs)[j]? = some q → eqS q.nm s = false) (fun i => n - (intOf i).toNat)
  case atStart => exact ⟨0, by omega, rfl, fun j q hj => by omega⟩
  case round =>
    obtain ⟨m, hm, rfl, hq⟩ := hrel
    have HQ := Lib.hid hq; clear hq
    by_cases hlt : m < n
    · obtain ⟨x, hx⟩ := HD.out.get hlt
      obtain ⟨b, off, rfl, hr⟩ := HD.out.base (by omega)
      have HX := Lib.hid (pfs_at hx)
      have HR := Lib.hid (rng0 (hr m x hx))
      clear hr hx
      have i1 : (0 : Int) ≤ (m : Int) := by omega
      have i2 : (m : Int) < (n : Int) := by omega
      cases he : (x.1.nm.toList == s.toList) with
      | true =>
        have HF := Lib.hid (find_hit HQ.out HX.out he)
        go_wp2_with (first
          | (with_reducible refine load_kt ckS _ rfl HR.out rfl rfl ?_))
        go_ret
        exact ⟨by rw [← HRK.out, HF.out.1, HF.out.2]; rfl, Below.refl _ _⟩
      | false =>
        have HE := Lib.hid he
        go_wp2_with (first
          | (with_reducible refine load_kt ckS _ rfl HR.out rfl rfl ?_))
        go_round
        case rel => exact ⟨m + 1, by omega, by go_num, fun j q hj hq => by
          rcases Nat.lt_or_ge j m with h3 | h3
          · exact HQ.out j q h3 hq
          · obtain rfl : m = j := by omega
            rw [HX.out] at hq
            injection hq with hq
            rw [← hq]; exact HE.out⟩
        case measure => simp [intOf]; omega
    · obtain rfl : m = n := by omega
      have HF := Lib.hid (find_none (ps := pfs qs) (s := s) fun j q hj => HQ.out j q (by rw [pfs_len, HD.out.1] at hj; exact hj))
      go_wp2
      go_ret
      exact ⟨by rw [← HRK.out, HF.out]; rfl, Below.refl _ _⟩
/-! ### By name. -/
/-! ### Whether fields may be. -/

section
variable {ops : Array Oper} {S : World → Prop} {o : Oper} {a : Act}
theorem yield_eqS {s t : ByteArray} {b : Bool} (hb : (s.toList == t.toList) = b) (x y : Operand) (t' : TypeId) (ho : o.op = .binOp .eql 9 x y t') (hx : a.eval x = .string s) (hy : a.eval y = .string t) (hw : Region.wanted o (yielded ops a.tmps) = true) :
    YieldsIf Tryz.prog ops S o (.bool (b)) a :=
  .inl ⟨hw, fun w _ => by
    subst hb
    unfold execOp
    simp only [ho, hx, hy]
    simp [go_sem]⟩
theorem yield_neS {s t : ByteArray} {b : Bool} (hb : (s.toList == t.toList) = b) (x y : Operand) (t' : TypeId) (ho : o.op = .binOp .neq 9 x y t') (hx : a.eval x = .string s) (hy : a.eval y = .string t) (hw : Region.wanted o (yielded ops a.tmps) = true) :
    YieldsIf Tryz.prog ops S o (.bool (!b)) a :=
  .inl ⟨hw, fun w _ => by
    subst hb
    unfold execOp
    simp only [ho, hx, hy]
    simp [go_sem]⟩
theorem yield_eqB {p q : Bool} {b : Bool} (hb : (p == q) = b) (x y : Operand) (t' : TypeId) (ho : o.op = .binOp .eql 4 x y t') (hx : a.eval x = .bool p) (hy : a.eval y = .bool q) (hw : Region.wanted o (yielded ops a.tmps) = true) :
    YieldsIf Tryz.prog ops S o (.bool (b)) a :=
  .inl ⟨hw, fun w _ => by
    subst hb
    unfold execOp
    simp only [ho, hx, hy]
    simp [go_sem]⟩
theorem yield_neB {p q : Bool} {b : Bool} (hb : (p == q) = b) (x y : Operand) (t' : TypeId) (ho : o.op = .binOp .neq 4 x y t') (hx : a.eval x = .bool p) (hy : a.eval y = .bool q) (hw : Region.wanted o (yielded ops a.tmps) = true) :
    YieldsIf Tryz.prog ops S o (.bool (!b)) a :=
  .inl ⟨hw, fun w _ => by
    subst hb
    unfold execOp
    simp only [ho, hx, hy]
    simp [go_sem]⟩
theorem yield_eqE {p q : Int} {b : Bool} (hb : (p == q) = b) (x y : Operand) (t' : TypeId) (ho : o.op = .binOp .eql 27 x y t') (hx : a.eval x = .int .i64 p) (hy : a.eval y = .int .i64 q) (hw : Region.wanted o (yielded ops a.tmps) = true) :
    YieldsIf Tryz.prog ops S o (.bool (b)) a :=
  .inl ⟨hw, fun w _ => by
    subst hb
    unfold execOp
    simp only [ho, hx, hy]
    simp [go_sem]⟩
end

end Go.Proofs.YtgblnlpfgdbnnaaGreat
