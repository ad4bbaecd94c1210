/- Contract of wire.Meet. -/
import Derived.Test.YtofngihdnjgmeaaLWh
namespace Go.Proofs.Ytofngihdnjgmeaa
set_option maxRecDepth 100000
open Go.ChangeShapes Go.WideShapes Go.ChangeAt Go.RowKit

section
variable {ops : Array Oper} {rest : List Oper} {o : Oper} {a : Act} {u : World} {Q : Exit → Act → World → Prop} {b n : Nat} {g : Int → Option Value}
theorem fm_at (hm : FM u b n g) {k : Int} (hk : ok64W k) {v : Value} (hv : g k = some v) (m x : Operand) (ho : o.op = .lookup 55 m x false) (em : a.eval m = .map (some b)) (ex : a.eval x = .int .i64 k) (hw : Region.wanted o (yielded ops a.tmps) = true)
    (h : wpList Try.prog ops Q rest (a.put o.dst v) u) : wpList Try.prog ops Q (o :: rest) a u :=
  BigFrame.wpList_want hw fun K hK => by
    unfold Oper.wp
    simp [execOp, ho, em, ex, hm.at hk hv, Result.andThen]
    exact hK _ _ h
theorem fm_none (hm : FM u b n g) {k : Int} (hk : ok64W k) (hv : g k = none) (m x : Operand) (ho : o.op = .lookup 55 m x false) (em : a.eval m = .map (some b)) (ex : a.eval x = .int .i64 k) (hw : Region.wanted o (yielded ops a.tmps) = true)
    (h : wpList Try.prog ops Q rest (a.put o.dst .nilFunc) u) : wpList Try.prog ops Q (o :: rest) a u :=
  BigFrame.wpList_want hw fun K hK => by
    unfold Oper.wp
    simp [execOp, ho, em, ex, hm.none hk hv, Result.andThen]
    exact hK _ _ h
end
theorem fn_neq (fn : Fn) (first cap : Array Value) (w : World) : (binOp .eql 53 (.func fn first cap) .nilFunc).run Try.prog w = .ok (.bool false) w := by kernel_rfl
theorem fn_eq (w : World) : (binOp .eql 53 .nilFunc .nilFunc).run Try.prog w = .ok (.bool true) w := by kernel_rfl
theorem tbl_fn {k : Int} (h : verB k = true) (q : Nat) : ∃ fn first cap, tbl q k = some (.func fn first cap) := by
  rcases ver_cases h with rfl | rfl | rfl
  · exact ⟨_, _, _, rfl⟩
  · exact ⟨_, _, _, rfl⟩
  · exact ⟨_, _, _, rfl⟩
theorem tbl_no {k : Int} (h : verB k = false) (q : Nat) : tbl q k = none := by
  obtain ⟨h1, h2, h3⟩ := ver_not h
  simp [tbl, h1, h2, h3]
def meetN (a b : Int) : Int := if verB a = true ∧ verB b = true then min a b else 0
theorem meet_any (a b : Int) (ha : ok64W a) (hb : ok64W b) (w : World) :
    Calls Try.prog 14 #[.int .i64 a, .int .i64 b] w fun e u => e = .returned (.int .i64 (meetN a b)) ∧ Below w.heap.size w u := by
  have hen := fn_neq
  have hee := fn_eq
  have OA := Lib.hid ha; have OB := Lib.hid hb
  clear ha hb
  cases h1 : verB a with
  | false =>
    rw [show meetN a b = 0 by simp [meetN, h1]]
    have HA := Lib.hid h1; clear h1
    go_enter Try.func14, Try.ntmps14
    go_wp2_with (first
      | (go_at_call 20; (with_reducible refine (sayings_any _).mono ?_); rintro e u ⟨bm, q, rfl, hm, hs⟩; have HM := Lib.hid hm; have HB := Lib.hid hs.bel; clear hm hs; have TA := Lib.hid (tbl_no HA.out q))
      | (with_reducible refine fm_none HM.out OA.out TA.out _ _ rfl rfl rfl rfl ?_))
    go_ret
    exact ⟨rfl, HB.out⟩
  | true =>
    have HA := Lib.hid h1
    cases h2 : verB b with
    | false =>
      rw [show meetN a b = 0 by simp [meetN, h2]]
      have HB2 := Lib.hid h2; clear h1 h2
      go_enter Try.func14, Try.ntmps14
      go_wp2_with (first
        | (go_at_call 20; (with_reducible refine (sayings_any _).mono ?_); rintro e u ⟨bm, q, rfl, hm, hs⟩; have HM := Lib.hid hm; have HB := Lib.hid hs.bel; clear hm hs; obtain ⟨fA, gA, dA, tA⟩ := tbl_fn HA.out q; have TA := Lib.hid tA; clear tA; have TB := Lib.hid (tbl_no HB2.out q))
        | (with_reducible refine fm_at HM.out OA.out TA.out _ _ rfl rfl rfl rfl ?_)
        | (with_reducible refine fm_none HM.out OB.out TB.out _ _ rfl rfl rfl rfl ?_))
      go_ret
      exact ⟨rfl, HB.out⟩
    | true =>
      rw [show meetN a b = min a b by simp [meetN, h1, h2]]
      have HB2 := Lib.hid h2; clear h1 h2
      go_enter Try.func14, Try.ntmps14
      go_wp2_with (first
        | (go_at_call 20; (with_reducible refine (sayings_any _).mono ?_); rintro e u ⟨bm, q, rfl, hm, hs⟩; have HM := Lib.hid hm; have HB := Lib.hid hs.bel; clear hm hs; obtain ⟨fA, gA, dA, tA⟩ := tbl_fn HA.out q; have TA := Lib.hid tA; clear tA; obtain ⟨fB, gB, dB, tB⟩ := tbl_fn HB2.out q; have TB := Lib.hid tB; clear tB)
        | (with_reducible refine fm_at HM.out OA.out TA.out _ _ rfl rfl rfl rfl ?_)
        | (with_reducible refine fm_at HM.out OB.out TB.out _ _ rfl rfl rfl rfl ?_))
      go_ret
      exact ⟨rfl, HB.out⟩
end Go.Proofs.Ytofngihdnjgmeaa
