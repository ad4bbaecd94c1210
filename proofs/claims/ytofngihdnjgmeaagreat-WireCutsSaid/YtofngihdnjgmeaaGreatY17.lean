/- Plain arithmetic of layer 6, on: what finding, adding up, reserving, ending and letting go tell. No program is spoken of here.; A carrier's methods (layer 10), whatever its functions do with each part: vec, rights, counter, lock, numbers.; A carrier's methods field and holds (layer 10), whatever its functions do with each part.; Layer 8 (octets) as plain data: the bytes of a number, and the number of bytes. No program is spoken of here.; Bytes in memory: slices that read as bytes, rows of the call's own, what append and a conversion make of them.; Contracts of the functions of octets that only read: num.Is, folded, unfolded, the closure of decoded, IndexFunc, joined, decoded; and of the document's Is.; Contracts of the document's Add, Hand, Write, Pass, Reserve, End and Expire of fields, with layer 5's Write and Pass.; The contract of octets.decoded.; Contracts of a Reader's methods: Err, End, goOn, Number, and of Count and Text where they tell something.; Contracts of a Reader's Number, and of its Count and Text where they tell something.; Contracts of a Reader's Count and Text, whatever the bytes are.; wire.reading: a carrier that reads each part from bytes.; What was put is read back. -/
import Derived.Test.YtofngihdnjgmeaaGreatY01
import Derived.Test.YtofngihdnjgmeaaGreatY04
import Derived.Test.YtofngihdnjgmeaaGreatY07
import Derived.Test.YtofngihdnjgmeaaGreatY09
import Derived.Test.YtofngihdnjgmeaaGreatY10
import Derived.Test.YtofngihdnjgmeaaGreatY12
import Derived.Test.YtofngihdnjgmeaaGreatY18
import Derived.Test.YtofngihdnjgmeaaGreatY21
import Derived.Test.YtofngihdnjgmeaaGreatY22A
import Derived.Test.YtofngihdnjgmeaaGreatY25
import Derived.Test.YtofngihdnjgmeaaGreatY27A
import Derived.Test.YtofngihdnjgmeaaGreatY29
import Derived.WalkKit
import Derived.ProofKit
import Derived.Lib.Hide
import Derived.Deep.RegionHeld3
import Derived.Below
import Derived.Deep.MidRow
import Derived.Deep.QuietTactic
import Derived.BigQuiet
import Derived.Laws.StructEq
import Derived.Laws.OwnMore
import Derived.Maps.AppendAt
import Derived.OwnWalk
import Derived.OpenShut
import Derived.ChangeOld
import Derived.Deep.Slices
import Derived.ChangeSlices
import Derived.Laws.AppendOwn
import Derived.WalkMore
import Derived.LoopTactic
import Derived.Defers
import Derived.Recover
import Derived.WalkSmall
import Derived.Lib.AppendZeros
import Derived.Deep.OwnRows
import Derived.Lib.SliceRun
import Derived.Shelf.SlSortCmp.WholeK
import Derived.Shelf.SlSortCmp.NoneTotal
import Derived.Lib.AppendStr
import Derived.Laws.IdiomStrings
import Derived.Laws.Cover3
import Derived.ShutString
import Derived.Maps.OwnSet
import Derived.Maps.Views
namespace Go.Proofs.YtofngihdnjgmeaaGreat

/-! ### Finding. -/
/-! ### What a replica holds. -/
/-! ### Reserving. -/
/-! ### Ending. -/
def endE (l : List Ho) (k n st : Int) : Int := if rightsL l && (decide (st = 2) || decide (st = 3)) then (match fnd l k n with | none => 10 | some h => if h.s = 1 then 0 else 12) else 1
/-! ### Letting go. -/
end Go.Proofs.YtofngihdnjgmeaaGreat

namespace Go.Proofs.YtofngihdnjgmeaaGreat
set_option maxRecDepth 100000
open Go.ChangeShapes Go.WideShapes Go.ChangeAt Go.RowKit

/-! ### Cells of one function, or pointer. -/
theorem cwR : cellW 76 = true := by decide

/-! ### What stays. -/
/-! ### A carrier. -/
end Go.Proofs.YtofngihdnjgmeaaGreat

namespace Go.Proofs.YtofngihdnjgmeaaGreat
set_option maxRecDepth 100000
open Go.ChangeShapes Go.WideShapes Go.ChangeAt Go.RowKit

theorem Mm.setX (m : Mm) (i : Nat) (z : Int) (hi : i < m.X.length) : m.cells.set (1 + i) (.int .i64 z) = ({ m with X := m.X.set i z } : Mm).cells := by
  rw [Mm.cells, Nat.add_comm, List.set_cons_succ, List.set_append_left _ _ (by rw [vals_length]; exact hi), vals_set]
  rfl
theorem Mm.setN (m : Mm) (s : ByteArray) : m.cells.set 0 (.string s) = ({ m with nm := s } : Mm).cells := rfl
end Go.Proofs.YtofngihdnjgmeaaGreat

namespace Go.Proofs.YtofngihdnjgmeaaGreat.oct
set_option maxRecDepth 100000

def unf (u : Nat) : Int := if u % 2 = 1 then -1 - ((u / 2 : Nat) : Int) else ((u / 2 : Nat) : Int)
theorem fold_unf {u : Nat} (h : isB (unf u) = true) : fold (unf u) = u := by
  unfold fold
  rw [if_pos h]
  unfold unf
  by_cases h1 : u % 2 = 1
  · rw [if_pos h1, if_pos (by omega)]; omega
  · rw [if_neg h1, if_neg (by omega)]; omega
/-- What bytes make, the lowest first. -/
def jn : List UInt8 → Nat
  | [] => 0
  | c :: r => c.toNat % 128 + 128 * jn r
/-- A byte that is a number's last one. -/
def fin (c : UInt8) : Bool := decide (c.toNat < 128)
/-- Where the first such byte is; none: how many bytes there are. -/
def lst : List UInt8 → Nat
  | [] => 0
  | c :: r => if fin c then 0 else lst r + 1
theorem lst_le : ∀ l, lst l ≤ l.length
  | [] => Nat.le_refl _
  | c :: r => by simp only [lst, List.length_cons]; have := lst_le r; split <;> omega
theorem lst_before : ∀ (l : List UInt8) (j : Nat), j < lst l → fin (l.getD j 0) = false
  | [], _, h => by simp [lst] at h
  | c :: r, j, h => by
    simp only [lst] at h
    cases hc : fin c with
    | true => simp [hc] at h
    | false =>
      rw [hc] at h
      cases j with
      | zero => simpa using hc
      | succ j => simpa using lst_before r j (by simpa using h)
theorem lst_at : ∀ (l : List UInt8), lst l < l.length → fin (l.getD (lst l) 0) = true
  | [], h => by simp [lst] at h
  | c :: r, h => by
    simp only [lst, List.length_cons] at h ⊢
    cases hc : fin c with
    | true => simpa using hc
    | false =>
      rw [hc] at h
      simpa [hc] using lst_at r (by simpa using h)
theorem lst_is {l : List UInt8} {k : Nat} (hk : k ≤ l.length) (h : ∀ j, j < k → fin (l.getD j 0) = false) (h1 : k < l.length → fin (l.getD k 0) = true) : lst l = k := by
  rcases Nat.lt_trichotomy (lst l) k with h2 | h2 | h2
  · have := lst_at l (by omega)
    rw [h _ h2] at this; cases this
  · exact h2
  · have h3 := lst_le l
    have := lst_before l k h2
    rw [h1 (by omega)] at this; cases this
theorem ofNat_toNat (c : UInt8) : UInt8.ofNat c.toNat = c := by simp
/-- Bytes up to the first that is a last one, of which the last is not 0 where there are several, are the number's that they make. -/
theorem enc_jn : ∀ (l : List UInt8), lst l < l.length → (0 < lst l → l.getD (lst l) 0 ≠ 0) → enc (jn (l.take (lst l + 1))) = l.take (lst l + 1)
  | [], h, _ => by simp [lst] at h
  | c :: r, h, h0 => by
    cases hc : fin c with
    | true =>
      have hc' : c.toNat < 128 := by simpa [fin] using hc
      simp only [lst, hc, if_true, Nat.zero_add, List.take_succ_cons, List.take_zero, jn]
      rw [Nat.mod_eq_of_lt hc', Nat.mul_zero, Nat.add_zero, enc_lt hc', ofNat_toNat]
    | false =>
      have hc' : ¬ c.toNat < 128 := by simpa [fin] using hc
      have hc2 := c.toNat_lt
      simp only [lst, hc, Bool.false_eq_true, if_false, List.length_cons, List.getD_cons_succ] at h h0 ⊢
      have hn := h0 (by omega)
      have ih := enc_jn r (by omega) (fun _ => hn)
      simp only [List.take_succ_cons, jn] at ih ⊢
      have hJ : jn (r.take (lst r + 1)) ≠ 0 := by
        intro e
        rw [e, enc_lt (by omega)] at ih
        have hl := congrArg List.length ih
        simp only [List.length_cons, List.length_nil, List.length_take] at hl
        have h2 : lst r = 0 := by omega
        rw [h2] at ih hn
        apply hn
        cases r with
        | nil => simp
        | cons d s => simp at ih; simp [← ih]
      rw [enc_ge (by omega)]
      have e1 : (c.toNat % 128 + 128 * jn (r.take (lst r + 1))) % 128 + 128 = c.toNat := by omega
      have e2 : (c.toNat % 128 + 128 * jn (r.take (lst r + 1))) / 128 = jn (r.take (lst r + 1)) := by omega
      rw [e1, e2, ofNat_toNat, ih]
theorem jn_lt : ∀ l : List UInt8, jn l < 128 ^ l.length
  | [] => by simp [jn]
  | c :: r => by
    have := jn_lt r
    simp only [jn, List.length_cons, Nat.pow_succ]
    omega
theorem jn_snoc : ∀ (l : List UInt8) (c : UInt8), jn (l ++ [c]) = jn l + c.toNat % 128 * 128 ^ l.length
  | [], c => by simp [jn]
  | d :: r, c => by
    simp only [List.cons_append, jn, jn_snoc r c, List.length_cons, Nat.pow_succ]
    rw [Nat.mul_add, Nat.add_assoc, Nat.mul_comm (128 ^ r.length) 128, Nat.mul_left_comm]

/-- The number with which bytes begin; how many are its own; why there is none. -/
def decE (l : List UInt8) : Int :=
  if l.length ≤ lst l then 3 else if 6 ≤ lst l ∨ (0 < lst l ∧ l.getD (lst l) 0 = 0) then 4 else if isB (unf (jn (l.take (lst l + 1)))) = true then 0 else 2
def decN (l : List UInt8) : Int := if decE l = 0 then unf (jn (l.take (lst l + 1))) else 0
def decS (l : List UInt8) : Nat := if decE l = 0 then lst l + 1 else 0
theorem dec_zero {l : List UInt8} (h : decE l = 0) : lst l < l.length ∧ decS l = lst l + 1 ∧ isB (decN l) = true ∧ l.take (decS l) = enc (fold (decN l)) := by
  have hS : decS l = lst l + 1 := by unfold decS; rw [if_pos h]
  have hN : decN l = unf (jn (l.take (lst l + 1))) := by unfold decN; rw [if_pos h]
  unfold decE at h
  split at h
  · cases h
  · rename_i h1
    split at h
    · cases h
    · rename_i h2
      split at h
      · rename_i h3
        have h1' : lst l < l.length := by omega
        refine ⟨h1', hS, by rw [hN]; exact h3, ?_⟩
        rw [hN, fold_unf h3, hS]
        exact (enc_jn l h1' (fun h4 h5 => h2 (.inr ⟨h4, h5⟩))).symm
      · cases h
theorem dec_not {l : List UInt8} (h : decE l ≠ 0) : decN l = 0 := by unfold decN; rw [if_neg h]
end Go.Proofs.YtofngihdnjgmeaaGreat.oct

namespace Go.Proofs.YtofngihdnjgmeaaGreat.oct
set_option maxRecDepth 100000
open Go.ChangeShapes Go.WideShapes Go.ChangeAt Go.RowKit

theorem wp_str {w : World} {o : Oper} {a : Act} {K : Act → World → Prop} {Q : Exit → Act → World → Prop} {A : Option Addr} {l : List UInt8} (hr : Bys w A l) {k : Nat} (hk : l.length = k) (x : Operand) (ho : o.op = .convert 36 9 x) {c : Nat} (hx : a.eval x = .slice A k c)
    (h : K (a.put o.dst (.string ⟨l.toArray⟩)) w) : o.wp Tryz.prog a w K Q := by
  subst hk
  unfold Oper.wp execOp
  simp only [ho, hx, Sem.run_bind, Sem.run_pure, Result.andThen_ok, run_str hr]
  exact h
theorem to_str {w : World} {ops : Array Oper} {rest : List Oper} {o : Oper} {a : Act} {Q : Exit → Act → World → Prop} {A : Option Addr} {l : List UInt8} (hr : Bys w A l) {k : Nat} (hk : l.length = k) (hgd : o.guard = none) (x : Operand) (ho : o.op = .convert 36 9 x) {c : Nat} (hx : a.eval x = .slice A k c)
    (h : wpList Tryz.prog ops Q rest (a.put o.dst (.string ⟨l.toArray⟩)) w) : wpList Tryz.prog ops Q (o :: rest) a w :=
  wpList_plain hgd fun _ hK => wp_str hr hk x ho hx (hK _ _ h)
end Go.Proofs.YtofngihdnjgmeaaGreat.oct

namespace Go.Proofs.YtofngihdnjgmeaaGreat.oct
set_option maxRecDepth 100000
open Go.ChangeShapes Go.WideShapes Go.ChangeAt Go.RowKit

theorem unfolded_any (u : Nat) (hu : u < 4398046511104) (w : World) : Calls Tryz.prog 115 #[.int .i64 (u : Int)] w fun e w' => e = .returned (.int .i64 (unf u)) ∧ w = w' := by
  have e1 : (u : Int).tmod 2 = ((u % 2 : Nat) : Int) := by rw [Int.tmod_eq_emod_of_nonneg (by omega)]; omega
  have e2 : (u : Int).tdiv 2 = ((u / 2 : Nat) : Int) := by rw [Int.tdiv_eq_ediv_of_nonneg (by omega)]; omega
  have b2 : u / 2 < 4398046511104 := by omega
  by_cases h1 : u % 2 = 1
  · rw [show unf u = -1 - ((u / 2 : Nat) : Int) by unfold unf; rw [if_pos h1]]
    have e3 : ((u % 2 : Nat) : Int) = 1 := by omega
    rw [e3] at e1
    generalize u / 2 = q at *
    go_enter Tryz.func115, Tryz.ntmps115
    go_wp2
    go_ret
    exact ⟨rfl, rfl⟩
  · rw [show unf u = ((u / 2 : Nat) : Int) by unfold unf; rw [if_neg h1]]
    have e3 : ((u % 2 : Nat) : Int) = 0 := by omega
    rw [e3] at e1
    generalize u / 2 = q at *
    go_enter Tryz.func115, Tryz.ntmps115
    go_wp2
    go_ret
    exact ⟨rfl, rfl⟩
theorem fin_any (c : UInt8) (w : World) : Calls Tryz.prog 114 #[.int .u8 (c.toNat : Int)] w fun e w' => e = .returned (.bool (fin c)) ∧ w = w' := by
  by_cases h : c.toNat < 128
  · rw [show fin c = true by simp [fin, h]]
    have h' : (c.toNat : Int) < 128 := by omega
    generalize c.toNat = z at *
    go_enter Tryz.func114, Tryz.ntmps114
    go_wp2
    go_ret
    exact ⟨rfl, rfl⟩
  · rw [show fin c = false by simp [fin, h]]
    have h' : ¬ (c.toNat : Int) < 128 := by omega
    generalize c.toNat = z at *
    go_enter Tryz.func114, Tryz.ntmps114
    go_wp2
    go_ret
    exact ⟨rfl, rfl⟩
theorem fin_eq (c : UInt8) (b : Bool) (hb : fin c = b) (w : World) : Calls Tryz.prog 114 #[.int .u8 (c.toNat : Int)] w fun e w' => e = .returned (.bool b) ∧ w = w' := by subst hb; exact fin_any c w
/-- Where a number's last byte is: -1, if there is none. -/
def ixOf (l : List UInt8) : Int := if l.length ≤ lst l then -1 else (lst l : Int)
theorem idx_any (A : Option Addr) (n c : Nat) (l : List UInt8) (hn : l.length = n) (hm : n ≤ 1048576) (w : World) (hd : Bys w A l) :
    Calls Tryz.prog 113 #[.slice A n c, .func (.func 114) #[] #[]] w fun e w' => e = .returned (.int .i64 (ixOf l)) ∧ w = w' := by
  have HD := Lib.hid hd; have HL := Lib.hid hn; clear hd hn
  go_enter Tryz.func113, Tryz.ntmps113
  go_wp2
  go_loopw [8] (fun i wr => ∃ m : Nat, m ≤ n ∧ i = .int .i64 m ∧ (∀ j, j < m → fin (l.getD j 0) = false) ∧ wr = w) (fun i _ => n - (intOf i).toNat)
  case atStart => exact ⟨0, by omega, rfl, by omega, rfl⟩
  case round =>
    obtain ⟨m, hm2, rfl, hu, rfl⟩ := hrel
    have HU := Lib.hid hu; clear hu
    by_cases hlt : m < n
    · obtain ⟨b, off, rfl, hc⟩ := HD.out.at (k := m) (by rw [HL.out]; exact hlt)
      generalize hz : l.getD m 0 = z at hc
      have HZ := Lib.hid hz; clear hz
      have i1 : (0 : Int) ≤ (m : Int) := by omega
      have i2 : (m : Int) < (n : Int) := by omega
      cases hf : fin z with
      | true =>
        have HF := Lib.hid (show lst l = m from lst_is (by rw [HL.out]; omega) HU.out (fun _ => by rw [HZ.out]; exact hf))
        go_wp2_with (first
          | (go_at_call 114; (with_reducible refine (fin_eq _ _ hf _).mono ?_); rintro e u ⟨rfl, rfl⟩))
        go_ret
        exact ⟨by rw [ixOf, HF.out, if_neg (by rw [HL.out]; omega)]; rfl, rfl⟩
      | false =>
        go_wp2_with (first
          | (go_at_call 114; (with_reducible refine (fin_eq _ _ hf _).mono ?_); rintro e u ⟨rfl, rfl⟩))
        go_roundw
        case rel => exact ⟨m + 1, by omega, by go_num, fun j hj => by
          rcases Nat.lt_or_ge j m with h1 | h1
          · exact HU.out j h1
          · rw [show j = m by omega, HZ.out]; exact hf, trivial⟩
        case measure => simp [intOf]; omega
    · obtain rfl : m = n := by omega
      have HF := Lib.hid (show lst l = m from lst_is (by rw [HL.out]; omega) HU.out (fun h => by rw [HL.out] at h; omega))
      go_wp2
      go_ret
      exact ⟨by rw [ixOf, HF.out, if_pos (by rw [HL.out]; omega)]; rfl, rfl⟩
theorem take_get {l : List UInt8} {m : Nat} (h : m < l.length) : l.take (m + 1) = l.take m ++ [l.getD m 0] := by
  rw [List.take_add_one, List.getElem?_eq_getElem h]; simp [List.getD, h]
theorem joined_any (A : Option Addr) (n c : Nat) (l : List UInt8) (hn : l.length = n) (hm : n ≤ 6) (w : World) (hd : Bys w A l) :
    Calls Tryz.prog 116 #[.slice A n c] w fun e w' => e = .returned (.int .i64 (jn l : Int)) ∧ w = w' := by
  have HD := Lib.hid hd; have HL := Lib.hid hn; clear hd hn
  go_enter Tryz.func116, Tryz.ntmps116
  go_wp2
  go_loopw [3, 8] (fun v i wr => ∃ m : Nat, m ≤ n ∧ i = .int .i64 m ∧ v = .int .i64 (jn (l.take m) : Int) ∧ wr = w) (fun _ i _ => n - (intOf i).toNat)
  case atStart => exact ⟨0, by omega, rfl, by simp [jn], rfl⟩
  case round =>
    obtain ⟨m, hm2, rfl, rfl, rfl⟩ := hrel
    by_cases hlt : m < n
    · obtain ⟨b, off, rfl, hc⟩ := HD.out.at (k := m) (by rw [HL.out]; exact hlt)
      have hj : jn (l.take (m + 1)) = jn (l.take m) + (l.getD m 0).toNat % 128 * 128 ^ m := by
        rw [take_get (by rw [HL.out]; exact hlt), jn_snoc, List.length_take, HL.out, Nat.min_eq_left hm2]
      have hJ : jn (l.take m) < 128 ^ m := by have := jn_lt (l.take m); rwa [List.length_take, HL.out, Nat.min_eq_left hm2] at this
      have hz := (l.getD m 0).toNat_lt
      generalize (l.getD m 0).toNat = z at hc hj hz
      generalize jn (l.take m) = J at hj hJ ⊢
      have HJ := Lib.hid hj; clear hj
      have e1 : (z : Int).tmod 128 = ((z % 128 : Nat) : Int) := by rw [Int.tmod_eq_emod_of_nonneg (by omega)]; omega
      have hq : z % 128 < 128 := by omega
      generalize z % 128 = q at e1 hq HJ
      have i1 : (0 : Int) ≤ (m : Int) := by omega
      have i2 : (m : Int) < (n : Int) := by omega
      have hm5 : m = 0 ∨ m = 1 ∨ m = 2 ∨ m = 3 ∨ m = 4 ∨ m = 5 := by omega
      rcases hm5 with rfl | rfl | rfl | rfl | rfl | rfl
      · simp only [Nat.reducePow] at hJ
        rw [Nat.add_zero] at hc
        simp only [Int.natCast_zero] at *
        go_wp2
        go_roundw
        case rel => exact ⟨1, by omega, by go_num, by rw [HJ.out]; simp only [Nat.reducePow]; go_num, trivial⟩
        case measure => simp [intOf]; omega
      · simp only [Nat.reducePow] at hJ
        simp only [Int.natCast_one] at *
        go_wp2
        go_roundw
        case rel => exact ⟨2, by omega, by go_num, by rw [HJ.out]; simp only [Nat.reducePow]; go_num, trivial⟩
        case measure => simp [intOf]; omega
      · simp only [Nat.reducePow] at hJ
        simp only [show ((2 : Nat) : Int) = 2 from rfl] at *
        go_wp2
        go_roundw
        case rel => exact ⟨3, by omega, by go_num, by rw [HJ.out]; simp only [Nat.reducePow]; go_num, trivial⟩
        case measure => simp [intOf]; omega
      · simp only [Nat.reducePow] at hJ
        simp only [show ((3 : Nat) : Int) = 3 from rfl] at *
        go_wp2
        go_roundw
        case rel => exact ⟨4, by omega, by go_num, by rw [HJ.out]; simp only [Nat.reducePow]; go_num, trivial⟩
        case measure => simp [intOf]; omega
      · simp only [Nat.reducePow] at hJ
        simp only [show ((4 : Nat) : Int) = 4 from rfl] at *
        go_wp2
        go_roundw
        case rel => exact ⟨5, by omega, by go_num, by rw [HJ.out]; simp only [Nat.reducePow]; go_num, trivial⟩
        case measure => simp [intOf]; omega
      · simp only [Nat.reducePow] at hJ
        simp only [show ((5 : Nat) : Int) = 5 from rfl] at *
        go_wp2
        go_roundw
        case rel => exact ⟨6, by omega, by go_num, by rw [HJ.out]; simp only [Nat.reducePow]; go_num, trivial⟩
        case measure => simp [intOf]; omega
    · obtain rfl : m = n := by omega
      rw [show l.take m = l by rw [← HL.out]; exact List.take_length]
      go_wp2
      go_ret
      exact ⟨rfl, rfl⟩
end Go.Proofs.YtofngihdnjgmeaaGreat.oct

namespace Go.Proofs.YtofngihdnjgmeaaGreat
set_option maxRecDepth 100000
open Go.ChangeShapes Go.WideShapes Go.ChangeAt Go.RowKit

/-! ### Locks. -/
theorem Lk.f0 (a : Lk) : (vals a.l)[0]? = some (.int .i64 a.s) := rfl
/-! ### Fields. -/
end Go.Proofs.YtofngihdnjgmeaaGreat

namespace Go.Proofs.YtofngihdnjgmeaaGreat.oct
set_option maxRecDepth 100000
open Go.ChangeShapes Go.WideShapes Go.ChangeAt Go.RowKit

theorem idx_eq (A : Option Addr) (n c : Nat) (l : List UInt8) (z : Int) (hz : ixOf l = z) (hn : l.length = n) (hm : n ≤ 1048576) (w : World) (hd : Bys w A l) :
    Calls Tryz.prog 113 #[.slice A n c, .func (.func 114) #[] #[]] w fun e w' => e = .returned (.int .i64 z) ∧ w = w' := by
  subst hz; exact idx_any A n c l hn hm w hd
set_option maxHeartbeats 1000000 in
theorem decoded_any (A : Option Addr) (n c : Nat) (l : List UInt8) (hn : l.length = n) (hm : n ≤ 1048576) (hnc : n ≤ c) (w : World) (hd : Bys w A l) :
    Calls Tryz.prog 73 #[.slice A n c] w fun e w' => e = .returned (.tuple #[.int .i64 (decN l), .int .i64 (decS l : Int), .int .i64 (decE l)]) ∧ w = w' := by
  have HD := Lib.hid hd; have HL := Lib.hid hn; have HM := Lib.hid hm; clear hd hn
  by_cases h1 : l.length ≤ lst l
  · have HX := Lib.hid (show ixOf l = -1 by rw [ixOf, if_pos h1])
    have hE : decE l = 3 := by rw [decE, if_pos h1]
    rw [show decN l = 0 by rw [decN, hE]; rfl, show decS l = 0 by rw [decS, hE]; rfl, hE]
    clear h1 hE
    go_enter Tryz.func73, Tryz.ntmps73
    go_wp2_with (first
      | (go_at_call 113; (with_reducible refine (idx_eq _ _ _ _ _ HX.out HL.out HM.out _ HD.out).mono ?_); rintro e u ⟨rfl, rfl⟩))
    exact bodyPost_ret (results_tmp3 rfl _ _ _) rfl ⟨rfl, rfl⟩
  · have hX : ixOf l = (lst l : Int) := by rw [ixOf, if_neg h1]
    have hE : decE l = if 6 ≤ lst l ∨ (0 < lst l ∧ l.getD (lst l) 0 = 0) then 4 else if isB (unf (jn (l.take (lst l + 1)))) = true then 0 else 2 := by rw [decE, if_neg h1]
    have hN : decN l = if decE l = 0 then unf (jn (l.take (lst l + 1))) else 0 := rfl
    have hS : decS l = if decE l = 0 then lst l + 1 else 0 := rfl
    rw [hN, hS, hE]
    clear hN hS hE
    have hk : lst l < n := by have := HL.out; omega
    generalize lst l = k at *
    have HX := Lib.hid hX; clear hX h1
    obtain ⟨b0, off, rfl, hc⟩ := HD.out.at (k := k) (by rw [HL.out]; exact hk)
    have hz0 : (l.getD k 0 = 0) ↔ (l.getD k 0).toNat = 0 := by
      constructor
      · intro h; rw [h]; rfl
      · intro h; exact UInt8.toNat_inj.1 (by rw [h]; rfl)
    simp only [hz0]
    clear hz0
    generalize (l.getD k 0).toNat = z at *
    have i1 : (0 : Int) ≤ (k : Int) := by omega
    have i2 : (k : Int) < (n : Int) := by omega
    have i3 : ¬ (k : Int) < 0 := by omega
    by_cases h6 : 6 ≤ k
    · have h6' : (6 : Int) ≤ (k : Int) := by omega
      rw [if_pos (Or.inl h6), if_neg (by decide), if_neg (by decide)]
      go_enter Tryz.func73, Tryz.ntmps73
      go_wp2_with (first
        | (go_at_call 113; (with_reducible refine (idx_eq _ _ _ _ _ HX.out HL.out HM.out _ HD.out).mono ?_); rintro e u ⟨rfl, rfl⟩))
      exact bodyPost_ret (results_tmp3 rfl _ _ _) rfl ⟨rfl, rfl⟩
    · have h6' : ¬ (6 : Int) ≤ (k : Int) := by omega
      by_cases h0 : 0 < k ∧ z = 0
      · obtain ⟨h01, rfl⟩ := h0
        have h01' : (0 : Int) < (k : Int) := by omega
        rw [if_pos (Or.inr ⟨h01, rfl⟩), if_neg (by decide), if_neg (by decide)]
        go_enter Tryz.func73, Tryz.ntmps73
        go_wp2_with (first
          | (go_at_call 113; (with_reducible refine (idx_eq _ _ _ _ _ HX.out HL.out HM.out _ HD.out).mono ?_); rintro e u ⟨rfl, rfl⟩))
        exact bodyPost_ret (results_tmp3 rfl _ _ _) rfl ⟨rfl, rfl⟩
      · rw [if_neg (show ¬ (6 ≤ k ∨ (0 < k ∧ z = 0)) by omega)]
        have HJ := Lib.hid (show jn (l.take (k + 1)) < 4398046511104 from Nat.lt_of_lt_of_le (jn_lt _) (by
          rw [show (4398046511104 : Nat) = 128 ^ 6 by decide]
          exact Nat.pow_le_pow_right (by omega) (by rw [List.length_take]; omega)))
        have e6 : ((k : Int) + 1) ≤ (c : Int) := by omega
        have e7 : (0 : Int) ≤ (k : Int) + 1 := by omega
        have e8 : ((k : Int) + 1).toNat = k + 1 := by omega
        cases hb : isB (unf (jn (l.take (k + 1)))) with
        | false =>
          rw [if_neg (by decide), if_neg (by decide), if_neg (by decide)]
          by_cases hk0 : 0 < k
          · have h01' : (0 : Int) < (k : Int) := by omega
            have hz' : ((z : Int) == 0) = false := by simp only [beq_eq_false_iff_ne]; omega
            go_enter Tryz.func73, Tryz.ntmps73
            go_wp2_with (first
              | (go_at_call 113; (with_reducible refine (idx_eq _ _ _ _ _ HX.out HL.out HM.out _ HD.out).mono ?_); rintro e u ⟨rfl, rfl⟩)
              | (go_at_call 116; (refine (joined_any _ _ _ (l.take (k + 1)) (by rw [List.length_take, HL.out]; omega) (by omega) _ (HD.out.take _)).mono ?_); rintro e u ⟨rfl, rfl⟩)
              | (go_at_call 115; (with_reducible refine (unfolded_any _ HJ.out _).mono ?_); rintro e u ⟨rfl, rfl⟩)
              | (go_at_call 83; (with_reducible refine (is_eq _ _ hb _).mono ?_); rintro e u ⟨rfl, rfl⟩))
            exact bodyPost_ret (results_tmp3 rfl _ _ _) rfl ⟨rfl, rfl⟩
          · have h01' : ¬ (0 : Int) < (k : Int) := by omega
            go_enter Tryz.func73, Tryz.ntmps73
            go_wp2_with (first
              | (go_at_call 113; (with_reducible refine (idx_eq _ _ _ _ _ HX.out HL.out HM.out _ HD.out).mono ?_); rintro e u ⟨rfl, rfl⟩)
              | (go_at_call 116; (refine (joined_any _ _ _ (l.take (k + 1)) (by rw [List.length_take, HL.out]; omega) (by omega) _ (HD.out.take _)).mono ?_); rintro e u ⟨rfl, rfl⟩)
              | (go_at_call 115; (with_reducible refine (unfolded_any _ HJ.out _).mono ?_); rintro e u ⟨rfl, rfl⟩)
              | (go_at_call 83; (with_reducible refine (is_eq _ _ hb _).mono ?_); rintro e u ⟨rfl, rfl⟩))
            exact bodyPost_ret (results_tmp3 rfl _ _ _) rfl ⟨rfl, rfl⟩
        | true =>
          rw [if_pos rfl, if_pos rfl, if_pos rfl]
          by_cases hk0 : 0 < k
          · have h01' : (0 : Int) < (k : Int) := by omega
            have hz' : ((z : Int) == 0) = false := by simp only [beq_eq_false_iff_ne]; omega
            go_enter Tryz.func73, Tryz.ntmps73
            go_wp2_with (first
              | (go_at_call 113; (with_reducible refine (idx_eq _ _ _ _ _ HX.out HL.out HM.out _ HD.out).mono ?_); rintro e u ⟨rfl, rfl⟩)
              | (go_at_call 116; (refine (joined_any _ _ _ (l.take (k + 1)) (by rw [List.length_take, HL.out]; omega) (by omega) _ (HD.out.take _)).mono ?_); rintro e u ⟨rfl, rfl⟩)
              | (go_at_call 115; (with_reducible refine (unfolded_any _ HJ.out _).mono ?_); rintro e u ⟨rfl, rfl⟩)
              | (go_at_call 83; (with_reducible refine (is_eq _ _ hb _).mono ?_); rintro e u ⟨rfl, rfl⟩))
            exact bodyPost_ret (results_tmp3 rfl _ _ _) rfl ⟨rfl, rfl⟩
          · have h01' : ¬ (0 : Int) < (k : Int) := by omega
            go_enter Tryz.func73, Tryz.ntmps73
            go_wp2_with (first
              | (go_at_call 113; (with_reducible refine (idx_eq _ _ _ _ _ HX.out HL.out HM.out _ HD.out).mono ?_); rintro e u ⟨rfl, rfl⟩)
              | (go_at_call 116; (refine (joined_any _ _ _ (l.take (k + 1)) (by rw [List.length_take, HL.out]; omega) (by omega) _ (HD.out.take _)).mono ?_); rintro e u ⟨rfl, rfl⟩)
              | (go_at_call 115; (with_reducible refine (unfolded_any _ HJ.out _).mono ?_); rintro e u ⟨rfl, rfl⟩)
              | (go_at_call 83; (with_reducible refine (is_eq _ _ hb _).mono ?_); rintro e u ⟨rfl, rfl⟩))
            exact bodyPost_ret (results_tmp3 rfl _ _ _) rfl ⟨rfl, rfl⟩
end Go.Proofs.YtofngihdnjgmeaaGreat.oct

namespace Go.Proofs.YtofngihdnjgmeaaGreat.oct
set_option maxRecDepth 100000
open Go.ChangeShapes Go.WideShapes Go.ChangeAt Go.RowKit

theorem Rd.cell0 {w : World} {r : Nat} {A : Option Addr} {n c : Nat} {e : Int} (h : w.heap[r]? = some (.cells #[.slice A n c, .int .i64 e] 122 (0, 0))) : w.cell? ⟨r, 0, none⟩ = some (.slice A n c) := by rw [cell_of_row w r 0 _ 122 (0, 0) h]; rfl
theorem Rd.cell1 {w : World} {r : Nat} {A : Option Addr} {n c : Nat} {e : Int} (h : w.heap[r]? = some (.cells #[.slice A n c, .int .i64 e] 122 (0, 0))) : w.cell? ⟨r, 1, none⟩ = some (.int .i64 e) := by rw [cell_of_row w r 1 _ 122 (0, 0) h]; rfl
theorem Rd.fz {w : World} {r : Nat} {A : Option Addr} {n c : Nat} {e : Int} (h : w.heap[r]? = some (.cells #[.slice A n c, .int .i64 e] 122 (0, 0))) (k : Nat) : w.frozen? ⟨r, k, none⟩ = false := frozen_of_row w r k _ 122 h
theorem Rd.setErr {w : World} {r : Nat} {l : List UInt8} {e : Int} (h : Rd w r l e) (e' : Int) : Rd (w.setCell ⟨r, 1, none⟩ (.int .i64 e')) r l e' := by
  have h' := h
  obtain ⟨A, c, h1, h2, h3⟩ := h
  refine ⟨A, c, ?_, h2, h3.only h' ((Only.refl r w).setCell 1 _)⟩
  rw [heap_setCell_same w r 1 _ 122 _ h1]; rfl
theorem Rd.setLeft {w : World} {r : Nat} {l : List UInt8} {e : Int} (h : Rd w r l e) {B : Option Addr} {m : List UInt8} {n c : Nat} (hm : m.length = n) (hc : n ≤ c) (hB : Bys w B m) : Rd (w.setCell ⟨r, 0, none⟩ (.slice B n c)) r m e := by
  subst hm
  have h' := h
  obtain ⟨A, c', h1, h2, h3⟩ := h
  refine ⟨B, c, ?_, hc, hB.only h' ((Only.refl r w).setCell 0 _)⟩
  rw [heap_setCell_same w r 0 _ 122 _ h1]; rfl
theorem err_any (r : Nat) (l : List UInt8) (er : Int) (w : World) (h : Rd w r l er) :
    Calls Tryz.prog 35 #[.pointer (some ⟨r, 0, none⟩)] w fun e w' => e = .returned (.int .i64 er) ∧ w = w' := by
  obtain ⟨A, c, h1, _, _⟩ := h
  have c1 := Rd.cell1 h1
  clear h1
  go_enter Tryz.func35, Tryz.ntmps35
  go_wp2
  go_ret
  exact ⟨rfl, rfl⟩
def endE (l : List UInt8) (er : Int) : Int := if er = 0 then (if l = [] then 0 else 5) else er
theorem end_any (r : Nat) (l : List UInt8) (er : Int) (w : World) (h : Rd w r l er) :
    Calls Tryz.prog 37 #[.pointer (some ⟨r, 0, none⟩)] w fun e w' => e = .returned (.int .i64 (endE l er)) ∧ w = w' := by
  have he := err_any r l er w h
  obtain ⟨A, c, h1, _, _⟩ := h
  have c0 := Rd.cell0 h1
  clear h1
  by_cases h0 : er = 0
  · subst h0
    by_cases h2 : l = []
    · subst h2
      have hl : ([] : List UInt8).length = 0 := rfl
      rw [hl] at c0
      rw [show endE [] 0 = 0 from rfl]
      go_enter Tryz.func37, Tryz.ntmps37
      go_wp2_with (first
        | (go_at_call 35; (with_reducible refine he.mono ?_); rintro e u ⟨rfl, rfl⟩))
      go_ret
      exact ⟨rfl, rfl⟩
    · rw [show endE l 0 = 5 by rw [endE, if_pos rfl, if_neg h2]]
      have hl : 0 < l.length := by
        rcases Nat.eq_zero_or_pos l.length with h | h
        · exact absurd (List.eq_nil_of_length_eq_zero h) h2
        · exact h
      generalize l.length = n at *
      have hl' : (0 : Int) < (n : Int) := by omega
      go_enter Tryz.func37, Tryz.ntmps37
      go_wp2_with (first
        | (go_at_call 35; (with_reducible refine he.mono ?_); rintro e u ⟨rfl, rfl⟩))
      go_ret
      exact ⟨rfl, rfl⟩
  · rw [show endE l er = er by rw [endE, if_neg h0]]
    have h0' : (er != 0) = true := by simp [h0]
    have h0'' : (er == 0) = false := by simp [h0]
    go_enter Tryz.func37, Tryz.ntmps37
    go_wp2_with (first
      | (go_at_call 35; (with_reducible refine he.mono ?_); rintro e u ⟨rfl, rfl⟩))
    go_ret
    exact ⟨rfl, rfl⟩
theorem slice3 (A : Option Addr) (n c K : Nat) (h1 : K ≤ n) (h2 : n ≤ c) (W : World) : (Instr.slice 36 (.slice A n c) (some (.int .i64 (K : Int))) (some (.int .i64 (n : Int))) (some (.int .i64 (n : Int)))).run Tryz.prog W = .ok (.slice (if n = K then A else A.map (·.add K)) (n - K) (n - K)) W := by
  obtain ⟨i0, hi0, hz0, hz1, hz2⟩ := info_parts b_info
  simp [Instr.slice, run_underlying Tryz.underlying36, Instr.sliceBounds, Instr.sliceBound, asIntOf, sizeOf, typeInfo, hi0, hz1, h1, h2]
theorem wp_store_left {o : Oper} {a : Act} {w : World} {K : Act → World → Prop} {Q : Exit → Act → World → Prop} (hd : o.dst = none) (x y : Operand) (ho : o.op = .store 36 x y) {r : Nat} (hx : a.eval x = .pointer (some ⟨r, 0, none⟩)) {B : Option Addr} {n c : Nat} (hy : a.eval y = .slice B n c)
    {v : Value} (hc : w.cell? ⟨r, 0, none⟩ = some v) (hf : w.frozen? ⟨r, 0, none⟩ = false) (h : K a (w.setCell ⟨r, 0, none⟩ (.slice B n c))) : o.wp Tryz.prog a w K Q := by
  unfold Oper.wp execOp
  simp only [ho, hx, hy]
  simp [go_sem, hc, hf]
  simpa [hd, Act.put] using h
set_option maxRecDepth 100000 in
theorem goOn_any (r : Nat) (l : List UInt8) (er : Int) (k : Nat) (hk : k ≤ l.length) (w : World) (h : Rd w r l er) :
    Calls Tryz.prog 74 #[.pointer (some ⟨r, 0, none⟩), .int .i64 (k : Int)] w fun e w' => e = .returned (.tuple #[]) ∧ Rd w' r (l.drop k) er ∧ Only r w w' := by
  have HR := Lib.hid h
  obtain ⟨A, c, h1, hnc, hb⟩ := h
  have HC := Lib.hid (Rd.cell0 h1)
  have HZ := Lib.hid (Rd.fz h1 0)
  have HB := Lib.hid hb
  have HL := Lib.hid (show (l.drop k).length = l.length - k from List.length_drop)
  clear h1 hb
  generalize l.length = n at *
  go_enter Tryz.func74, Tryz.ntmps74
  go_wp2_with fail
  refine Draws.start (S := fun u : World => u = w.drew) (n := 17) 20 rfl (by kernel_rfl) ?_
  have HS := Lib.hid (show (fun u : World => u = w.drew) w.drew from rfl)
  refine Draws.take 0 (v := ?v1) HS.out rfl (by kernel_rfl) (fun _ _ _ h => h) (Or.inl ⟨rfl, ?h1⟩) ?r1
  case h1 => intro w' hw'; go_simp; (try with_reducible rfl)
  (try simp only [Act.put, List.setIfInBounds_toArray, List.set_cons_zero, List.set_cons_succ])
  refine Draws.take 1 (v := ?v2) HS.out rfl (by kernel_rfl) (fun _ _ _ h => h) (Or.inl ⟨rfl, ?h2⟩) ?r2
  case h2 => intro w' hw'; go_simp; (try with_reducible rfl)
  (try simp only [Act.put, List.setIfInBounds_toArray, List.set_cons_zero, List.set_cons_succ])
  refine Draws.take 2 (v := ?v3) HS.out rfl (by kernel_rfl) (fun _ _ _ h => h) (Or.inl ⟨rfl, ?h3⟩) ?r3
  case h3 => intro w' hw'; go_simp; (try with_reducible rfl)
  (try simp only [Act.put, List.setIfInBounds_toArray, List.set_cons_zero, List.set_cons_succ])
  refine Draws.take 3 (v := ?v4) HS.out rfl (by kernel_rfl) (fun _ _ _ h => h) (Or.inl ⟨rfl, ?h4⟩) ?r4
  case h4 => intro w' hw'; go_simp; (try with_reducible rfl)
  (try simp only [Act.put, List.setIfInBounds_toArray, List.set_cons_zero, List.set_cons_succ])
  refine Draws.take 4 (v := ?v5) HS.out rfl (by kernel_rfl) (fun _ _ _ h => h) (Or.inl ⟨rfl, ?h5⟩) ?r5
  case h5 => intro w' hw'; have c0 : w'.cell? ⟨r, 0, none⟩ = some (.slice A n c) := (by rw [hw']; exact HC.out); clear hw'; go_simp; (try with_reducible rfl)
  (try simp only [Act.put, List.setIfInBounds_toArray, List.set_cons_zero, List.set_cons_succ])
  refine Draws.take 5 (v := ?v6) HS.out rfl (by kernel_rfl) (fun _ _ _ h => h) (Or.inl ⟨rfl, ?h6⟩) ?r6
  case h6 => intro w' hw'; go_simp; (try with_reducible rfl)
  (try simp only [Act.put, List.setIfInBounds_toArray, List.set_cons_zero, List.set_cons_succ])
  refine Draws.take 6 (v := ?v7) HS.out rfl (by kernel_rfl) (fun _ _ _ h => h) (Or.inl ⟨rfl, ?h7⟩) ?r7
  case h7 => intro w' hw'; go_simp; (try with_reducible rfl)
  (try simp only [Act.put, List.setIfInBounds_toArray, List.set_cons_zero, List.set_cons_succ])
  refine Draws.take 7 (v := ?v8) HS.out rfl (by kernel_rfl) (fun _ _ _ h => h) (Or.inl ⟨rfl, ?h8⟩) ?r8
  case h8 => intro w' hw'; go_simp; (try with_reducible rfl)
  (try simp only [Act.put, List.setIfInBounds_toArray, List.set_cons_zero, List.set_cons_succ])
  refine Draws.take 8 (v := ?v9) HS.out rfl (by kernel_rfl) (fun _ _ _ h => h) (Or.inl ⟨rfl, ?h9⟩) ?r9
  case h9 => intro w' hw'; go_simp; (try with_reducible rfl)
  (try simp only [Act.put, List.setIfInBounds_toArray, List.set_cons_zero, List.set_cons_succ])
  refine Draws.take 9 (v := ?v10) HS.out rfl (by kernel_rfl) (fun _ _ _ h => h) (Or.inl ⟨rfl, ?h10⟩) ?r10
  case h10 => intro w' hw'; have c0 : w'.cell? ⟨r, 0, none⟩ = some (.slice A n c) := (by rw [hw']; exact HC.out); clear hw'; go_simp; (try with_reducible rfl)
  (try simp only [Act.put, List.setIfInBounds_toArray, List.set_cons_zero, List.set_cons_succ])
  refine Draws.take 10 (v := ?v11) HS.out rfl (by kernel_rfl) (fun _ _ _ h => h) (Or.inl ⟨rfl, ?h11⟩) ?r11
  case h11 => intro w' hw'; go_simp; (try with_reducible rfl)
  (try simp only [Act.put, List.setIfInBounds_toArray, List.set_cons_zero, List.set_cons_succ])
  refine Draws.take 11 (v := ?v12) HS.out rfl (by kernel_rfl) (fun _ _ _ h => h) (Or.inl ⟨rfl, ?h12⟩) ?r12
  case h12 => intro w' hw'; go_simp; (try with_reducible rfl)
  (try simp only [Act.put, List.setIfInBounds_toArray, List.set_cons_zero, List.set_cons_succ])
  refine Draws.take 12 (v := ?v13) HS.out rfl (by kernel_rfl) (fun _ _ _ h => h) (Or.inl ⟨rfl, ?h13⟩) ?r13
  case h13 => intro w' hw'; go_simp; (try with_reducible rfl)
  (try simp only [Act.put, List.setIfInBounds_toArray, List.set_cons_zero, List.set_cons_succ])
  refine Draws.take 13 (v := ?v14) HS.out rfl (by kernel_rfl) (fun _ _ _ h => h) (Or.inl ⟨rfl, ?h14⟩) ?r14
  case h14 => intro w' hw'; go_simp; (try with_reducible rfl)
  (try simp only [Act.put, List.setIfInBounds_toArray, List.set_cons_zero, List.set_cons_succ])
  refine Draws.take 14 (v := ?v15) HS.out rfl (by kernel_rfl) (fun _ _ _ h => h) (Or.inl ⟨rfl, ?h15⟩) ?r15
  case h15 => intro w' hw'; have c0 : w'.cell? ⟨r, 0, none⟩ = some (.slice A n c) := (by rw [hw']; exact HC.out); clear hw'; go_simp; (try with_reducible rfl)
  (try simp only [Act.put, List.setIfInBounds_toArray, List.set_cons_zero, List.set_cons_succ])
  refine Draws.take 15 (v := ?v16) HS.out rfl (by kernel_rfl) (fun _ _ _ h => h) (Or.inl ⟨rfl, ?h16⟩) ?r16
  case h16 => intro w' hw'; go_simp; (try with_reducible rfl)
  (try simp only [Act.put, List.setIfInBounds_toArray, List.set_cons_zero, List.set_cons_succ])
  refine Draws.take 16 (v := ?v17) HS.out rfl (by kernel_rfl) (fun _ _ _ h => h) (Or.inl ⟨rfl, ?h17⟩) ?r17
  case h17 => intro w' hw'; have c1 := slice3 A n c k hk hnc w'; go_simp; (try with_reducible rfl)
  (try simp only [Act.put, List.setIfInBounds_toArray, List.set_cons_zero, List.set_cons_succ])
  refine Draws.does 17 rfl (by kernel_rfl) rfl (fun K hK => ?_)
  go_simp
  refine hK.out _ _ (fun h => absurd h (by omega)) ?_
  clear hK K
  (try simp only [Act.put, List.setIfInBounds_toArray, List.set_cons_zero, List.set_cons_succ])
  refine Draws.does 18 rfl (by kernel_rfl) rfl (fun K hK => ?_)
  go_simp
  refine hK.out _ _ (fun h => absurd h (by omega)) ?_
  clear hK K
  (try simp only [Act.put, List.setIfInBounds_toArray, List.set_cons_zero, List.set_cons_succ])
  refine Draws.does 19 rfl (by kernel_rfl) rfl (fun K hK => ?_)
  refine wp_store_left rfl _ _ rfl rfl rfl HC.out HZ.out ?_
  refine hK.out _ _ (fun h => absurd h (by omega)) ?_
  clear hK K
  (try simp only [Act.put, List.setIfInBounds_toArray, List.set_cons_zero, List.set_cons_succ])
  refine Draws.done (by kernel_rfl) ?_
  go_wp2_with fail
  all_goals first
    | (go_end0; exact ⟨rfl, Rd.setLeft (w := w.drew) HR.out HL.out (Nat.le_refl _) (HB.out.drop k), ((Only.refl r w).drew).setCell 0 _⟩)
    | (go_end0; exact ⟨rfl, (show l.drop k = [] from List.eq_nil_of_length_eq_zero (by rw [HL.out]; omega)) ▸ Rd.setLeft (w := w.drew) HR.out rfl (Nat.le_refl _) (.inl rfl), ((Only.refl r w).drew).setCell 0 _⟩)
    | (go_end0; refine ⟨rfl, ?_, ((Only.refl r w).drew).setCell 0 _⟩; rw [show l.drop k = [] from List.eq_nil_of_length_eq_zero (by rw [HL.out]; omega)]; exact Rd.setLeft (w := w.drew) HR.out rfl (Nat.le_refl _) (.inl rfl))
end Go.Proofs.YtofngihdnjgmeaaGreat.oct

namespace Go.Proofs.YtofngihdnjgmeaaGreat.oct
set_option maxRecDepth 100000
open Go.ChangeShapes Go.WideShapes Go.ChangeAt Go.RowKit

def rnN (l : List UInt8) (er : Int) : Int := if er = 0 then decN l else 0
def rnE (l : List UInt8) (er : Int) : Int := if er = 0 then decE l else er
def rnL (l : List UInt8) (er : Int) : List UInt8 := if er = 0 then l.drop (decS l) else l
theorem rnum_any (r : Nat) (l : List UInt8) (er : Int) (hm : l.length ≤ 1048576) (w : World) (h : Rd w r l er) :
    Calls Tryz.prog 33 #[.pointer (some ⟨r, 0, none⟩)] w fun e w' => e = .returned (.int .i64 (rnN l er)) ∧ Rd w' r (rnL l er) (rnE l er) ∧ Only r w w' := by
  have HR := Lib.hid h
  by_cases h0 : er = 0
  · subst h0
    rw [show rnN l 0 = decN l from rfl, show rnE l 0 = decE l from rfl, show rnL l 0 = l.drop (decS l) from rfl]
    obtain ⟨A, c, h1, hnc, hb⟩ := h
    have c0 := Rd.cell0 h1
    have c1 := Rd.cell1 h1
    have f1 := Rd.fz h1 1
    have hdc := decoded_any A l.length c l rfl hm hnc w hb
    clear h1 hb
    by_cases hE : decE l = 0
    · have hz := dec_zero hE
      have HK := Lib.hid (show decS l ≤ l.length by have h1 := hz.1; have h2 := hz.2.1; omega)
      clear hz
      rw [hE] at hdc ⊢
      clear hE
      generalize decN l = N at *
      generalize decS l = K at *
      generalize l.length = n at c0 hnc hm hdc
      go_enter Tryz.func33, Tryz.ntmps33
      go_wp2_with (first
        | (go_at_call 35; (with_reducible refine (err_any _ _ _ _ HR.out).mono ?_); rintro e u ⟨rfl, rfl⟩)
        | (go_at_call 73; (with_reducible refine hdc.mono ?_); rintro e u ⟨rfl, rfl⟩)
        | (go_at_call 74; (with_reducible refine (goOn_any _ _ _ _ HK.out _ HR.out).mono ?_); rintro e u ⟨rfl, hr, ho⟩; clear HR; have HR := Lib.hid hr; have HO := Lib.hid ho; clear hr ho))
      go_ret
      exact ⟨rfl, HR.out, HO.out⟩
    · rw [show decS l = 0 by rw [decS, if_neg hE], List.drop_zero, dec_not hE]
      rw [show decS l = 0 by rw [decS, if_neg hE], dec_not hE] at hdc
      have hE1 : (decE l != 0) = true := by simp [hE]
      have hE2 : (decE l == 0) = false := by simp [hE]
      clear hE
      generalize decE l = E at *
      generalize l.length = n at c0 hnc hm hdc
      go_enter Tryz.func33, Tryz.ntmps33
      go_wp2_with (first
        | (go_at_call 35; (with_reducible refine (err_any _ _ _ _ HR.out).mono ?_); rintro e u ⟨rfl, rfl⟩)
        | (go_at_call 73; (with_reducible refine hdc.mono ?_); rintro e u ⟨rfl, rfl⟩)
        | (go_at_call 74; (with_reducible refine (goOn_any _ _ _ _ HK.out _ HR.out).mono ?_); rintro e u ⟨rfl, hr, ho⟩; clear HR; have HR := Lib.hid hr; have HO := Lib.hid ho; clear hr ho))
      go_ret
      exact ⟨rfl, HR.out.setErr E, (Only.refl r w).setCell 1 _⟩
  · rw [show rnN l er = 0 by rw [rnN, if_neg h0], show rnE l er = er by rw [rnE, if_neg h0], show rnL l er = l by rw [rnL, if_neg h0]]
    have h1 : (er != 0) = true := by simp [h0]
    have h2 : (er == 0) = false := by simp [h0]
    clear h
    go_enter Tryz.func33, Tryz.ntmps33
    go_wp2_with (first
      | (go_at_call 35; (with_reducible refine (err_any _ _ _ _ HR.out).mono ?_); rintro e u ⟨rfl, rfl⟩))
    go_ret
    exact ⟨rfl, HR.out, Only.refl r w⟩
theorem rtext_ok (r : Nat) (l : List UInt8) (s m : List UInt8) (most : Int) (w : World) (_h : Rd w r l 0)
    (hc : Calls Tryz.prog 82 #[.pointer (some ⟨r, 0, none⟩), .int .i64 most] w fun e w' => e = .returned (.int .i64 (s.length : Int)) ∧ Rd w' r (s ++ m) 0 ∧ Only r w w') :
    Calls Tryz.prog 80 #[.pointer (some ⟨r, 0, none⟩), .int .i64 most] w fun e w' => e = .returned (.string ⟨s.toArray⟩) ∧ Rd w' r m 0 ∧ Only r w w' := by
  clear _h
  have HO := Lib.hid True.intro; have HR := Lib.hid True.intro
  have HT := Lib.hid (show (s ++ m).take s.length = s by simp)
  have HU := Lib.hid (show (s ++ m).drop s.length = m by simp)
  have HV := Lib.hid (show ((s ++ m).take s.length).length = s.length by rw [HT.out])
  have hlen : s.length ≤ (s ++ m).length := by rw [List.length_append]; omega
  have HK := Lib.hid hlen
  generalize s ++ m = L at *
  generalize hsl : s.length = k at *
  clear hsl
  go_enter Tryz.func80, Tryz.ntmps80
  go_wp2_with (first
    | (go_at_call 82; (with_reducible refine hc.mono ?_); rintro e u ⟨rfl, hr, ho⟩; clear HR HO; have HR := Lib.hid hr; have HO := Lib.hid ho; clear ho; obtain ⟨A, c, hh, hcc, hb⟩ := hr; have c0 := Rd.cell0 hh; have HB := Lib.hid hb; have HX := Lib.hid hcc; clear hh hb; obtain ⟨n, hn⟩ : ∃ n, n = L.length := ⟨_, rfl⟩; have hn2 := hn; rw [← hn] at c0 hlen hcc; clear hn; have HN := Lib.hid hn2; clear hn2; have hk' : ¬ (n : Int) < (k : Int) := (by omega); have hk2 : (k : Int) ≤ (c : Int) := (by omega); have hs := slice_high A n c k (by omega))
    | (go_at_call 35; (with_reducible refine (err_any _ _ _ _ HR.out).mono ?_); rintro e u ⟨rfl, rfl⟩)
    | (refine to_str (l := L.take k) (by first | exact HB.out.take k | (simp only [Option.map_id', id]; exact HB.out.take k)) HV.out rfl _ rfl rfl ?_)
    | (go_at_call 74; (with_reducible refine (goOn_any _ _ _ _ HK.out _ HR.out).mono ?_); rintro e u ⟨rfl, hr, ho⟩; have hp := HO.out.trans ho; clear HR HO ho; have HR := Lib.hid hr; have HO := Lib.hid hp; clear hr hp))
  go_ret
  have hr := HR.out
  rw [HU.out] at hr
  exact ⟨by rw [← HT.out]; rfl, hr, HO.out⟩
end Go.Proofs.YtofngihdnjgmeaaGreat.oct

namespace Go.Proofs.YtofngihdnjgmeaaGreat.oct
set_option maxRecDepth 100000
open Go.ChangeShapes Go.WideShapes Go.ChangeAt Go.RowKit

def rcE (most : Int) (l : List UInt8) (er : Int) : Int := if rnE l er = 0 then (if rnN l er < 0 then 2 else if most < rnN l er then 2 else 0) else rnE l er
def rcN (most : Int) (l : List UInt8) (er : Int) : Int := if rcE most l er = 0 then rnN l er else 0
theorem rcN_bounds {most : Int} {l : List UInt8} {er : Int} (hm : 0 ≤ most) : 0 ≤ rcN most l er ∧ rcN most l er ≤ most := by
  unfold rcN rcE
  by_cases h : rnE l er = 0
  · by_cases h1 : rnN l er < 0
    · simp [h, h1, hm]
    · by_cases h2 : most < rnN l er
      · simp [h, h1, h2, hm]
      · simp [h, h1, h2]; omega
  · simp [h, hm]
theorem rcount_any (r : Nat) (l : List UInt8) (er most : Int) (hm : l.length ≤ 1048576) (w : World) (h : Rd w r l er) :
    Calls Tryz.prog 82 #[.pointer (some ⟨r, 0, none⟩), .int .i64 most] w fun e w' => e = .returned (.int .i64 (rcN most l er)) ∧ Rd w' r (rnL l er) (rcE most l er) ∧ Only r w w' := by
  have hc := rnum_any r l er hm w h
  have HR := Lib.hid True.intro
  have HO := Lib.hid True.intro
  clear h
  by_cases hE : rnE l er = 0
  · by_cases h1 : rnN l er < 0
    · rw [show rcE most l er = 2 by simp [rcE, hE, h1], show rcN most l er = 0 by simp [rcN, rcE, hE, h1]]
      rw [hE] at hc
      clear hE
      generalize rnN l er = n at *
      generalize rnL l er = m at *
      go_enter Tryz.func82, Tryz.ntmps82
      go_wp2_with (first
        | (go_at_call 33; (with_reducible refine hc.mono ?_); rintro e u ⟨rfl, hr, ho⟩; clear HR HO; have HR := Lib.hid hr; have HO := Lib.hid ho; obtain ⟨A, c, hh, _, _⟩ := hr; have c1 := Rd.cell1 hh; have f1 := Rd.fz hh 1; clear ho hh)
        | (go_at_call 35; (with_reducible refine (err_any _ _ _ _ HR.out).mono ?_); rintro e u ⟨rfl, rfl⟩))
      go_ret
      exact ⟨rfl, HR.out.setErr 2, HO.out.trans ((Only.refl r _).setCell 1 _)⟩
    · by_cases h2 : most < rnN l er
      · rw [show rcE most l er = 2 by simp [rcE, hE, h2], show rcN most l er = 0 by simp [rcN, rcE, hE, h2]]
        rw [hE] at hc
        clear hE
        generalize rnN l er = n at *
        generalize rnL l er = m at *
        go_enter Tryz.func82, Tryz.ntmps82
        go_wp2_with (first
          | (go_at_call 33; (with_reducible refine hc.mono ?_); rintro e u ⟨rfl, hr, ho⟩; clear HR HO; have HR := Lib.hid hr; have HO := Lib.hid ho; obtain ⟨A, c, hh, _, _⟩ := hr; have c1 := Rd.cell1 hh; have f1 := Rd.fz hh 1; clear ho hh)
          | (go_at_call 35; (with_reducible refine (err_any _ _ _ _ HR.out).mono ?_); rintro e u ⟨rfl, rfl⟩))
        go_ret
        exact ⟨rfl, HR.out.setErr 2, HO.out.trans ((Only.refl r _).setCell 1 _)⟩
      · have e1 : rcE most l er = 0 := by simp [rcE, hE, h1, h2]
        rw [e1, show rcN most l er = rnN l er by simp [rcN, e1]]
        rw [hE] at hc
        clear hE e1
        generalize rnN l er = n at *
        generalize rnL l er = m at *
        go_enter Tryz.func82, Tryz.ntmps82
        go_wp2_with (first
          | (go_at_call 33; (with_reducible refine hc.mono ?_); rintro e u ⟨rfl, hr, ho⟩; clear HR HO; have HR := Lib.hid hr; have HO := Lib.hid ho; clear hr ho)
          | (go_at_call 35; (with_reducible refine (err_any _ _ _ _ HR.out).mono ?_); rintro e u ⟨rfl, rfl⟩))
        go_ret
        exact ⟨rfl, HR.out, HO.out⟩
  · rw [show rcE most l er = rnE l er by simp [rcE, hE], show rcN most l er = 0 by simp [rcN, rcE, hE]]
    have h1 : (rnE l er != 0) = true := by simp [hE]
    have h2 : (rnE l er == 0) = false := by simp [hE]
    clear hE
    generalize rnE l er = E at *
    generalize rnN l er = n at *
    generalize rnL l er = m at *
    go_enter Tryz.func82, Tryz.ntmps82
    go_wp2_with (first
      | (go_at_call 33; (with_reducible refine hc.mono ?_); rintro e u ⟨rfl, hr, ho⟩; clear HR HO; have HR := Lib.hid hr; have HO := Lib.hid ho; clear hr ho)
      | (go_at_call 35; (with_reducible refine (err_any _ _ _ _ HR.out).mono ?_); rintro e u ⟨rfl, rfl⟩))
    go_ret
    exact ⟨rfl, HR.out, HO.out⟩
def rtE (most : Int) (l : List UInt8) (er : Int) : Int := if rcE most l er = 0 then (if ((rnL l er).length : Int) < rcN most l er then 3 else 0) else rcE most l er
def rtS (most : Int) (l : List UInt8) (er : Int) : List UInt8 := if rtE most l er = 0 then (rnL l er).take (rcN most l er).toNat else []
def rtL (most : Int) (l : List UInt8) (er : Int) : List UInt8 := if rtE most l er = 0 then (rnL l er).drop (rcN most l er).toNat else rnL l er
theorem rtext_all (r : Nat) (l : List UInt8) (er most : Int) (h0 : 0 ≤ most) (hm : l.length ≤ 1048576) (w : World) (h : Rd w r l er) :
    Calls Tryz.prog 80 #[.pointer (some ⟨r, 0, none⟩), .int .i64 most] w fun e w' => e = .returned (.string ⟨(rtS most l er).toArray⟩) ∧ Rd w' r (rtL most l er) (rtE most l er) ∧ Only r w w' := by
  have hc := rcount_any r l er most hm w h
  by_cases hE : rcE most l er = 0
  · have hb := rcN_bounds (l := l) (er := er) h0
    by_cases h1 : ((rnL l er).length : Int) < rcN most l er
    · have e1 : rtE most l er = 3 := by simp [rtE, hE, h1]
      rw [e1, show rtS most l er = [] by simp [rtS, e1], show rtL most l er = rnL l er by simp [rtL, e1]]
      rw [hE] at hc
      clear hE e1 h hb
      have HR := Lib.hid True.intro
      have HO := Lib.hid True.intro
      generalize rcN most l er = n at *
      generalize rnL l er = m at *
      go_enter Tryz.func80, Tryz.ntmps80
      go_wp2_with (first
        | (go_at_call 82; (with_reducible refine hc.mono ?_); rintro e u ⟨rfl, hr, ho⟩; clear HR HO; have HR := Lib.hid hr; have HO := Lib.hid ho; obtain ⟨A, c, hh, _, _⟩ := hr; have c0 := Rd.cell0 hh; have c1 := Rd.cell1 hh; have f1 := Rd.fz hh 1; clear ho hh)
        | (go_at_call 35; (with_reducible refine (err_any _ _ _ _ HR.out).mono ?_); rintro e u ⟨rfl, rfl⟩))
      go_ret
      exact ⟨rfl, HR.out.setErr 3, HO.out.trans ((Only.refl r _).setCell 1 _)⟩
    · have e1 : rtE most l er = 0 := by simp [rtE, hE, h1]
      obtain ⟨k, hk⟩ : ∃ k : Nat, rcN most l er = (k : Int) := ⟨(rcN most l er).toNat, by omega⟩
      have hk1 : k ≤ (rnL l er).length := by omega
      have hsl : ((rnL l er).take k).length = k := by rw [List.length_take]; omega
      rw [e1, show rtS most l er = (rnL l er).take k by rw [rtS, if_pos e1, hk]; rfl, show rtL most l er = (rnL l er).drop k by rw [rtL, if_pos e1, hk]; rfl]
      rw [hE, hk] at hc
      have h3 : er = 0 := by
        have h4 : rnE l er = 0 := by
          by_cases h5 : rnE l er = 0
          · exact h5
          · rw [rcE, if_neg h5] at hE; exact absurd hE h5
        by_cases h5 : er = 0
        · exact h5
        · rw [rnE, if_neg h5] at h4; exact absurd h4 h5
      subst h3
      refine rtext_ok r l ((rnL l 0).take k) ((rnL l 0).drop k) most w h ?_
      rw [hsl, List.take_append_drop]
      exact hc
  · have e1 : rtE most l er = rcE most l er := by simp [rtE, hE]
    rw [show rtS most l er = [] by simp [rtS, e1, hE], show rtL most l er = rnL l er by simp [rtL, e1, hE], e1]
    have h1 : (rcE most l er != 0) = true := by simp [hE]
    have h2 : (rcE most l er == 0) = false := by simp [hE]
    clear hE e1 h
    have HR := Lib.hid True.intro
    have HO := Lib.hid True.intro
    generalize rcE most l er = E at *
    generalize rcN most l er = n at *
    generalize rnL l er = m at *
    go_enter Tryz.func80, Tryz.ntmps80
    go_wp2_with (first
      | (go_at_call 82; (with_reducible refine hc.mono ?_); rintro e u ⟨rfl, hr, ho⟩; clear HR HO; have HR := Lib.hid hr; have HO := Lib.hid ho; clear hr ho)
      | (go_at_call 35; (with_reducible refine (err_any _ _ _ _ HR.out).mono ?_); rintro e u ⟨rfl, rfl⟩))
    go_ret
    exact ⟨rfl, HR.out, HO.out⟩
end Go.Proofs.YtofngihdnjgmeaaGreat.oct

namespace Go.Proofs.YtofngihdnjgmeaaGreat
set_option maxRecDepth 100000
open Go.ChangeShapes Go.WideShapes Go.ChangeAt Go.RowKit

abbrev RS := List UInt8 × Int
def gR (s : RS) (_ : Int) : RS × Int := ((oct.rnL s.1 s.2, oct.rnE s.1 s.2), oct.rnN s.1 s.2)
def txR (s : RS) (_ : ByteArray) : RS × ByteArray := ((oct.rtL 8 s.1 s.2, oct.rtE 8 s.1 s.2), ⟨(oct.rtS 8 s.1 s.2).toArray⟩)
def ctR (s : RS) (_ : Nat) (_ : List Int) : RS × Nat × List Int := ((oct.rnL s.1 s.2, oct.rcE 16 s.1 s.2), (oct.rcN 16 s.1 s.2).toNat, zer (5 * (oct.rcN 16 s.1 s.2).toNat))
theorem rnL_len (l : List UInt8) (e : Int) : (oct.rnL l e).length ≤ l.length := by
  unfold oct.rnL
  split
  · rw [List.length_drop]; omega
  · exact Nat.le_refl _
theorem rtL_len (k : Int) (l : List UInt8) (e : Int) : (oct.rtL k l e).length ≤ l.length := by
  have := rnL_len l e
  unfold oct.rtL
  split
  · rw [List.length_drop]; omega
  · exact this
section
variable {w w' : World} {r b k : Nat} {l : List UInt8} {e : Int} {t : TypeId} {cs : List Value}
theorem Cel.neRd (hc : Cel w b t cs) (ht : t ≠ 122) (h : oct.Rd w r l e) : b ≠ r := fun he => by
  obtain ⟨A, c, h1, _⟩ := h
  subst he
  unfold Cel at hc
  rw [h1] at hc
  injection hc with hc
  injection hc with _ h2
  exact ht h2.symm
theorem Cel.only (hc : Cel w b t cs) (ht : t ≠ 122) (h : oct.Rd w r l e) (ho : oct.Only r w w') : Cel w' b t cs := (ho.block b hc.lt (hc.neRd ht h)).trans hc
theorem Keeps.only (h : oct.Rd w r l e) (ho : oct.Only r w w') : Keeps w w' := fun j cs t fr ht hj => by
  refine (ho.block j (Array.getElem?_eq_some_iff.1 hj).1 (fun he => ?_)).trans hj
  obtain ⟨A, c, h1, _⟩ := h
  subst he
  rw [h1] at hj
  injection hj with hj
  injection hj with _ h2
  rcases ht with rfl | rfl
  · exact absurd h2 (by decide)
  · exact absurd h2 (by decide)
theorem Rd.setElse (h : oct.Rd w r l e) (hc : Cel w b t cs) (ht : t ≠ 122) (hn : ∀ v ∈ cs, ∀ z : Int, v ≠ .int .u8 z) (v : Value) : oct.Rd (w.setCell ⟨b, k, none⟩ v) r l e := by
  have hne := hc.neRd ht h
  obtain ⟨A, c, h1, h2, h3⟩ := h
  refine ⟨A, c, ?_, h2, h3.keep fun b' _ ⟨off, z, hz⟩ => ?_⟩
  · exact (heap_setCell_other w ⟨b, k, none⟩ r v (fun he => hne he.symm)).trans h1
  · refine heap_setCell_other w ⟨b, k, none⟩ b' v (fun he => ?_)
    have he : b' = b := he
    subst he
    have h4 : cs[off]? = some (.int .u8 z) := by
      have hc' := hc
      unfold Cel at hc'
      rw [cell_of_row w b' off _ t (0, 0) hc'] at hz
      simpa using hz
    exact hn _ (List.mem_of_getElem? h4) z rfl
end
theorem vals_no8 (R : List Int) : ∀ v ∈ vals R, ∀ z : Int, v ≠ .int .u8 z := by
  intro v hv z
  simp only [vals, List.mem_map] at hv
  obtain ⟨y, _, rfl⟩ := hv
  simp
theorem Mm.no8 (m : Mm) : ∀ v ∈ m.cells, ∀ z : Int, v ≠ .int .u8 z := by
  intro v hv z
  simp only [Mm.cells, List.mem_cons, List.mem_append, List.not_mem_nil, or_false] at hv
  rcases hv with rfl | hv | rfl
  · simp
  · exact vals_no8 _ _ hv z
  · simp
/-- What is left of the bytes and the reader's error; the field as far as it is read. -/
structure RJ (w0 : World) (bf rb BR : Nat) (_k : Nat) (s : RS) (m : Mm) (w : World) : Prop where
  bel : Below w0.heap.size w0 w
  f : Cel w bf 33 m.cells
  r : Cel w BR 76 [.pointer (some ⟨rb, 0, none⟩)]
  rd : oct.Rd w rb s.1 s.2
  ln : s.1.length ≤ 1000000
  nf : w0.heap.size ≤ bf
  nr : w0.heap.size ≤ rb
  xl : m.X.length = 585
  hr : m.R.length = m.n * 5 ∧ m.n ≤ 50 ∧ (0 < m.n → ∃ b off, m.A = some ⟨b, off, none⟩)
  cp : m.n ≤ m.c
  rc : ∀ b off, m.A = some ⟨b, off, none⟩ → off = 0 ∧ w0.heap.size ≤ b ∧ Cel w b 55 (vals m.R)
section
variable {w0 w w' : World} {bf rb BR k k' : Nat} {s : RS} {m : Mm}
theorem RJ.stay (h : RJ w0 bf rb BR k s m w) (hb : Below w.heap.size w w') : RJ w0 bf rb BR k' s m w' :=
  ⟨h.bel.trans (hb.mono h.bel.size), h.f.below hb h.f.lt, h.r.below hb h.r.lt, h.rd.below hb, h.ln, h.nf, h.nr, h.xl, h.hr, h.cp, fun b off hA => by
    obtain ⟨h1, h2, h3⟩ := h.rc b off hA
    exact ⟨h1, h2, h3.below hb h3.lt⟩⟩
theorem RJ.less (h : RJ w0 bf rb BR k s m w) : RJ w0 bf rb BR k' s m w := ⟨h.bel, h.f, h.r, h.rd, h.ln, h.nf, h.nr, h.xl, h.hr, h.cp, h.rc⟩
theorem RJ.read (h : RJ w0 bf rb BR k s m w) {l : List UInt8} {e : Int} (hr : oct.Rd w' rb l e) (ho : oct.Only rb w w') (hl : l.length ≤ s.1.length) : RJ w0 bf rb BR k' (l, e) m w' :=
  ⟨oct.Only.below h.bel ho h.nr, h.f.only (by decide) h.rd ho, h.r.only (by decide) h.rd ho, hr, Nat.le_trans hl h.ln, h.nf, h.nr, h.xl, h.hr, h.cp, fun b off hA => by
    obtain ⟨h1, h2, h3⟩ := h.rc b off hA
    exact ⟨h1, h2, h3.only (by decide) h.rd ho⟩⟩
theorem RJ.setX (h : RJ w0 bf rb BR k s m w) {i : Nat} (hi : i < m.X.length) (z : Int) : RJ w0 bf rb BR k' s { m with X := m.X.set i z } (w.setCell ⟨bf, 1 + i, none⟩ (.int .i64 z)) :=
  ⟨h.bel.setCell (p := ⟨bf, 1 + i, none⟩) h.nf _, by rw [← Mm.setX m i z hi]; exact h.f.setCell _ _, h.r.setElse h.f (by decide) _, Rd.setElse h.rd h.f (by decide) m.no8 _, h.ln, h.nf, h.nr, by simpa using h.xl, h.hr, h.cp, fun b off hA => by
    obtain ⟨h1, h2, h3⟩ := h.rc b off hA
    exact ⟨h1, h2, h3.setElse h.f (by decide) _⟩⟩
theorem RJ.setN (h : RJ w0 bf rb BR k s m w) (t : ByteArray) : RJ w0 bf rb BR k' s { m with nm := t } (w.setCell ⟨bf, 0, none⟩ (.string t)) :=
  ⟨h.bel.setCell (p := ⟨bf, 0, none⟩) h.nf _, by rw [← Mm.setN m t]; exact h.f.setCell _ _, h.r.setElse h.f (by decide) _, Rd.setElse h.rd h.f (by decide) m.no8 _, h.ln, h.nf, h.nr, h.xl, h.hr, h.cp, fun b off hA => by
    obtain ⟨h1, h2, h3⟩ := h.rc b off hA
    exact ⟨h1, h2, h3.setElse h.f (by decide) _⟩⟩
theorem RJ.setR (h : RJ w0 bf rb BR k s m w) {b off i : Nat} (hA : m.A = some ⟨b, off, none⟩) (z : Int) : RJ w0 bf rb BR k' s { m with R := m.R.set i z } (w.setCell ⟨b, off + i, none⟩ (.int .i64 z)) := by
  obtain ⟨h1, h2, h3⟩ := h.rc b off hA
  subst h1
  rw [Nat.zero_add]
  refine ⟨h.bel.setCell (p := ⟨b, i, none⟩) h2 _, h.f.setElse h3 (by decide) _, h.r.setElse h3 (by decide) _, Rd.setElse h.rd h3 (by decide) (vals_no8 _) _, h.ln, h.nf, h.nr, h.xl, by simpa using h.hr, h.cp, fun b' off' hA' => ?_⟩
  have hA' : m.A = some ⟨b', off', none⟩ := hA'
  rw [hA] at hA'
  injection hA' with hA'
  injection hA' with e1 e2 e3
  subst e1; subst e2
  refine ⟨rfl, h2, ?_⟩
  have := h3.setCell i (.int .i64 z)
  rw [vals_set] at this
  exact this
theorem RJ.setH (h : RJ w0 bf rb BR k s m w) {b n : Nat} {R : List Int} (hb : w0.heap.size ≤ b) (hc : Cel w b 55 (vals R)) (hl : R.length = n * 5) (hn : n ≤ 50) : RJ w0 bf rb BR k' s (Mm.mk m.nm m.X (some ⟨b, 0, none⟩) n n R) (w.setCell ⟨bf, 586, none⟩ (.slice (some ⟨b, 0, none⟩) n n)) :=
  ⟨h.bel.setCell (p := ⟨bf, 586, none⟩) h.nf _, by rw [← Mm.setH h.xl]; exact h.f.setCell _ _, h.r.setElse h.f (by decide) _, Rd.setElse h.rd h.f (by decide) m.no8 _, h.ln, h.nf, h.nr, h.xl, ⟨hl, hn, fun _ => ⟨_, _, rfl⟩⟩, Nat.le_refl n, fun b' off' hA' => by
    have hA' : some (⟨b, 0, none⟩ : Addr) = some ⟨b', off', none⟩ := hA'
    injection hA' with hA'
    injection hA' with e1 e2 e3
    subst e1; subst e2
    exact ⟨rfl, hb, hc.setElse h.f (by decide) _⟩⟩
end
theorem made_holds (n : Nat) : madeCells (vals (zer 5)).toArray (n * 5) = (vals (zer (5 * n))).toArray := by
  apply Array.ext
  · simp [madeCells, vals, zer, Nat.mul_comm]
  · intro i h1 h2
    have h5 : i % 5 < 5 := Nat.mod_lt _ (by decide)
    simp [madeCells, vals, zer]
    generalize i % 5 = j at h5
    obtain rfl | rfl | rfl | rfl | rfl : j = 0 ∨ j = 1 ∨ j = 2 ∨ j = 3 ∨ j = 4 := by omega
    all_goals rfl
/-- A row of n holds of zeros, made. -/
theorem run_holds (n : Nat) (hn : n ≤ 1048576) (u : World) : (Instr.makeSlice 31 (.int .i64 (n : Int)) (.int .i64 (n : Int))).run Tryz.prog u = .ok (.slice (some ⟨u.heap.size, 0, none⟩) n n) (u.alloc (.cells (vals (zer (5 * n))).toArray 55)) := by
  obtain ⟨i, hi, hz⟩ := Option.map_eq_some_iff.1 h_info3
  simp only [Prod.mk.injEq] at hz
  obtain ⟨hz, hs, hb⟩ := hz
  have hr := run_make (P := Tryz.prog) u 31 55 i _ Tryz.underlying31 hi hz .i64 .i64 n n (by omega) (Int.le_refl _) (by rw [hb]; omega) (by omega)
  simp only [Int.toNat_natCast, hs, Value.cells] at hr
  rw [hr, made_holds]
section
variable {ops : Array Oper} {rest : List Oper} {o : Oper} {a : Act} {u : World} {Q : Exit → Act → World → Prop}
theorem make_holds (n : Nat) (hn : n ≤ 1048576) (hgd : o.guard = none) (x y : Operand) (ho : o.op = .makeSlice 31 x y) (hx : a.eval x = .int .i64 (n : Int)) (hy : a.eval y = .int .i64 (n : Int))
    (h : ∀ b u', u.heap.size ≤ b → Below u.heap.size u u' → Cel u' b 55 (vals (zer (5 * n))) → wpList Tryz.prog ops Q rest (a.put o.dst (.slice (some ⟨b, 0, none⟩) n n)) u') : wpList Tryz.prog ops Q (o :: rest) a u :=
  wpList_plain hgd fun K hK => by
    have e := run_holds n hn u
    unfold Oper.wp execOp
    simp only [ho, hx, hy, Sem.run_bind, Sem.run_pure, Result.andThen_ok, e]
    exact hK _ _ (h _ _ (Nat.le_refl _) ((Below.refl _ _).alloc (Nat.le_refl _) _) (Cel.new u _ _))
end
set_option maxHeartbeats 1000000 in
theorem rnumX_any (w0 : World) (bf rb BR k : Nat) (s : RS) (m : Mm) (i : Nat) (hi : i < m.X.length) (w : World) (hJ : RJ w0 bf rb BR (k + 1) s m w) :
    Calls Tryz.prog 78 #[.pointer (some ⟨bf, 1 + i, none⟩), .pointer (some ⟨BR, 0, none⟩)] w fun e w' => e = .returned (.tuple #[]) ∧ RJ w0 bf rb BR k (gR s (m.X.getD i 0)).1 { m with X := m.X.set i (gR s (m.X.getD i 0)).2 } w' ∧ Keeps w w' := by
  simp only [gR]
  generalize hz : m.X.getD i 0 = z
  have hlen := rnL_len s.1 s.2
  have HJ := Lib.hid hJ; clear hJ
  have HQ := Lib.hid (Keeps.refl w)
  go_enter Tryz.func78, Tryz.ntmps78
  go_wp2_with (first
    | (with_reducible refine load_w cwR (HJ.out.r.cell rfl) _ rfl rfl rfl ?_)
    | (go_at_call 33; (with_reducible refine (oct.rnum_any rb s.1 s.2 (by have := HJ.out.ln; omega) _ HJ.out.rd).mono ?_); rintro e u ⟨rfl, hr, ho⟩; have hj := HJ.out.read (k' := k) hr ho (rnL_len _ _); have hq := HQ.out.trans (Keeps.only HJ.out.rd ho); clear HJ HQ hr ho; have HJ := Lib.hid hj; have HQ := Lib.hid hq; clear hj hq; have c0 := HJ.out.f.cell (Mm.cX hi); have f0 := HJ.out.f.frozen (1 + i)))
  go_end0
  exact ⟨rfl, HJ.out.setX hi _, HQ.out.trans (Keeps.setCell HJ.out.f (by decide) (by decide))⟩
set_option maxHeartbeats 1000000 in
theorem rnumR_any (w0 : World) (bf rb BR k : Nat) (s : RS) (m : Mm) (b off i : Nat) (hA : m.A = some ⟨b, off, none⟩) (hi : i < m.R.length) (w : World) (hJ : RJ w0 bf rb BR (k + 1) s m w) :
    Calls Tryz.prog 78 #[.pointer (some ⟨b, off + i, none⟩), .pointer (some ⟨BR, 0, none⟩)] w fun e w' => e = .returned (.tuple #[]) ∧ RJ w0 bf rb BR k (gR s (m.R.getD i 0)).1 { m with R := m.R.set i (gR s (m.R.getD i 0)).2 } w' ∧ Keeps w w' := by
  obtain rfl := (hJ.rc b off hA).1
  simp only [gR]
  rw [Nat.zero_add]
  have HJ := Lib.hid hJ; clear hJ
  have HQ := Lib.hid (Keeps.refl w)
  go_enter Tryz.func78, Tryz.ntmps78
  go_wp2_with (first
    | (with_reducible refine load_w cwR (HJ.out.r.cell rfl) _ rfl rfl rfl ?_)
    | (go_at_call 33; (with_reducible refine (oct.rnum_any rb s.1 s.2 (by have := HJ.out.ln; omega) _ HJ.out.rd).mono ?_); rintro e u ⟨rfl, hr, ho⟩; have hj := HJ.out.read (k' := k) hr ho (rnL_len _ _); have hq := HQ.out.trans (Keeps.only HJ.out.rd ho); clear HJ HQ hr ho; have HJ := Lib.hid hj; have HQ := Lib.hid hq; clear hj hq; have c0 := ((HJ.out.rc b 0 hA).2.2).cell (vals_get hi); have f0 := ((HJ.out.rc b 0 hA).2.2).frozen i))
  go_end0
  have h := HJ.out.setR (k' := k) (i := i) hA (oct.rnN s.1 s.2)
  rw [Nat.zero_add] at h
  exact ⟨rfl, h, HQ.out.trans (Keeps.setCell ((HJ.out.rc b 0 hA).2.2) (by decide) (by decide))⟩
set_option maxHeartbeats 1000000 in
theorem rtextR_any (w0 : World) (bf rb BR k : Nat) (s : RS) (m : Mm) (w : World) (hJ : RJ w0 bf rb BR (k + 20) s m w) :
    Calls Tryz.prog 79 #[.pointer (some ⟨bf, 0, none⟩), .pointer (some ⟨BR, 0, none⟩)] w fun e w' => e = .returned (.tuple #[]) ∧ RJ w0 bf rb BR k (txR s m.nm).1 { m with nm := (txR s m.nm).2 } w' ∧ Keeps w w' := by
  simp only [txR]
  have HJ := Lib.hid hJ; clear hJ
  have HQ := Lib.hid (Keeps.refl w)
  go_enter Tryz.func79, Tryz.ntmps79
  go_wp2_with (first
    | (with_reducible refine load_w cwR (HJ.out.r.cell rfl) _ rfl rfl rfl ?_)
    | (go_at_call 80; (with_reducible refine (oct.rtext_all rb s.1 s.2 8 (by decide) (by have := HJ.out.ln; omega) _ HJ.out.rd).mono ?_); rintro e u ⟨rfl, hr, ho⟩; have hj := HJ.out.read (k' := k) hr ho (rtL_len _ _ _); have hq := HQ.out.trans (Keeps.only HJ.out.rd ho); clear HJ HQ hr ho; have HJ := Lib.hid hj; have HQ := Lib.hid hq; clear hj hq; have c0 := HJ.out.f.cell m.c0; have f0 := HJ.out.f.frozen 0))
  go_end0
  exact ⟨rfl, HJ.out.setN _, HQ.out.trans (Keeps.setCell HJ.out.f (by decide) (by decide))⟩
set_option maxHeartbeats 1000000 in
theorem rcntR_any (w0 : World) (bf rb BR k : Nat) (s : RS) (m : Mm) (w : World) (hJ : RJ w0 bf rb BR (k + 1) s m w) :
    Calls Tryz.prog 81 #[.pointer (some ⟨bf, 586, none⟩), .pointer (some ⟨BR, 0, none⟩)] w fun e w' => e = .returned (.tuple #[]) ∧ (∃ A c, RJ w0 bf rb BR k (ctR s m.n m.R).1 (Mm.mk m.nm m.X A (ctR s m.n m.R).2.1 c (ctR s m.n m.R).2.2) w') ∧ Keeps w w' := by
  simp only [ctR]
  have hbd := oct.rcN_bounds (most := 16) (l := s.1) (er := s.2) (by decide)
  have hcn := fun w h => oct.rcount_any rb s.1 s.2 16 h w
  obtain ⟨n, hn⟩ : ∃ n : Nat, oct.rcN 16 s.1 s.2 = (n : Int) := ⟨(oct.rcN 16 s.1 s.2).toNat, by omega⟩
  rw [hn] at hbd hcn ⊢
  rw [Int.toNat_natCast]
  have h16 : n ≤ 16 := by omega
  clear hn hbd
  have HJ := Lib.hid hJ; clear hJ
  have HQ := Lib.hid (Keeps.refl w)
  go_enter Tryz.func81, Tryz.ntmps81
  go_wp2_with (first
    | (with_reducible refine load_w cwR (HJ.out.r.cell rfl) _ rfl rfl rfl ?_)
    | (go_at_call 82; (with_reducible refine (hcn _ (by have := HJ.out.ln; omega) HJ.out.rd).mono ?_); rintro e u ⟨rfl, hr, ho⟩; have hj := HJ.out.read (k' := k) hr ho (rnL_len _ _); have hq := HQ.out.trans (Keeps.only HJ.out.rd ho); clear HJ HQ hr ho; have HJ := Lib.hid hj; have HQ := Lib.hid hq; clear hj hq; skip)
    | (with_reducible refine make_holds n (by omega) rfl _ _ rfl rfl rfl ?_; intro b u hnb hb hc; have hnb' := Nat.le_trans HJ.out.bel.size hnb; have hj := HJ.out.stay (k' := k) hb; have hq := HQ.out.trans (Keeps.below hb); clear HJ HQ hb hnb; have HJ := Lib.hid hj; have HQ := Lib.hid hq; clear hj hq; have c0 := HJ.out.f.cell (Mm.cH HJ.out.xl); have f0 := HJ.out.f.frozen 586))
  go_end0
  exact ⟨rfl, ⟨_, _, HJ.out.setH hnb' hc (by simp [zer, Nat.mul_comm]) (by omega)⟩, HQ.out.trans (Keeps.setCell HJ.out.f (by decide) (by decide))⟩
theorem ent_r1 (args : Array Value) (w : World) : (callFunc 78 args).run Tryz.prog w = .ok (.enter 78 args) w := by kernel_rfl
theorem ent_r2 (args : Array Value) (w : World) : (callFunc 79 args).run Tryz.prog w = .ok (.enter 79 args) w := by kernel_rfl
theorem ent_r3 (args : Array Value) (w : World) : (callFunc 81 args).run Tryz.prog w = .ok (.enter 81 args) w := by kernel_rfl
theorem carR (w0 : World) (bf rb BR : Nat) : Car gR txR ctR 78 BR 79 BR 81 BR bf (RJ w0 bf rb BR) where
  ent := ent_r1
  ent2 := ent_r2
  ent3 := ent_r3
  stay := fun k s m w w' h hb => h.stay hb
  less := fun k k' s m w h _ => h.less
  cel := fun k s m w h => h.f
  len := fun k s m w h => h.xl
  row := fun k s m w h => h.hr
  numX := fun k s m i z a w hJ hi ha => by
    subst ha
    have hl := (List.getElem?_eq_some_iff.1 hi).1
    exact rnumX_any w0 bf rb BR k s m i hl w hJ
  numR := fun k s m b off i z a w hJ hA hi ha => by
    subst ha
    have hl := (List.getElem?_eq_some_iff.1 hi).1
    exact rnumR_any w0 bf rb BR k s m b off i hA hl w hJ
  text := fun k s m w hJ => rtextR_any w0 bf rb BR k s m w hJ
  count := fun k s m w hJ => rcntR_any w0 bf rb BR k s m w hJ
end Go.Proofs.YtofngihdnjgmeaaGreat

namespace Go.Proofs.YtofngihdnjgmeaaGreat
set_option maxRecDepth 100000
open Go.ChangeShapes Go.WideShapes Go.ChangeAt Go.RowKit

theorem enc_says {v : Int} {p : Pf} (h : encE v p = 0) : saysR v p = true := by
  unfold encE at h
  split at h
  · split at h
    · rename_i h2; rw [← says_eq]; exact h2
    · exact absurd h (by decide)
  · rename_i h2; exact absurd h h2
theorem enc_wire {v : Int} {p : Pf} (hp : p.full) (h : encE v p = 0) : encB v p = wireR v p := by
  obtain ⟨hr, hb⟩ := says_parts (enc_says h)
  rw [encB, if_pos h]
  exact wire_eq (by rcases ver_cases hb with h | h | h <;> omega) hp (kind_of hr)
end Go.Proofs.YtofngihdnjgmeaaGreat
