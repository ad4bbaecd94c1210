/- awake. -/
import Derived.Test.YtofngihdnjgmeaaLFow
namespace Go.Proofs.Ytofngihdnjgmeaa
set_option maxRecDepth 100000
open Go.ChangeShapes Go.WideShapes Go.ChangeAt Go.RowKit

/-! ### awake. -/
def af1 : Pf := ⟨⟨#[97]⟩, 1, 0, newC 5 0 10, zL, []⟩
def af2 : Pf := af1.setH [⟨0, 1, 3, 9, 1⟩]
theorem af_1 : ctP ⟨#[97]⟩ 5 0 10 = af1 ∧ ctPE ⟨#[97]⟩ 5 0 10 = 0 := by
  have e1 : nameB ⟨#[97]⟩ = true := by decide +kernel
  have e2 : newB 5 0 10 = true := by decide +kernel
  have e : ctPE ⟨#[97]⟩ 5 0 10 = 0 := by simp [ctPE, e1, newE, e2]
  exact ⟨by rw [ctP, e, toldP_0]; simp [newA, e2, af1], e⟩
theorem af1_k : af1.k = 1 := rfl
theorem af1_l : looseP af1 0 = 5 := by decide +kernel
theorem af_2a : resE [] 0 3 9 = 0 ∧ resN [] 0 3 9 = 1 ∧ resL [] 0 3 9 = [⟨0, 1, 3, 9, 1⟩] := by
  refine ⟨by decide +kernel, by decide +kernel, by rw [resL, if_pos (by decide +kernel)]; rfl⟩
theorem af_2 : resP af1 0 3 9 = af2 ∧ resPN af1 0 3 9 = 1 ∧ resPE af1 0 3 9 = 0 := by
  obtain ⟨h1, h2, h3⟩ := af_2a
  have hl := af1_l
  have e : resPE af1 0 3 9 = 0 := by rw [resPE, if_pos af1_k, hl, if_neg (by decide)]; exact h1
  exact ⟨by rw [resP, e, toldP_0, resPH, hl, if_neg (by decide), show af1.hs = [] from rfl, h3]; rfl, by rw [resPN, if_pos af1_k, hl, if_neg (by decide)]; exact h2, e⟩
theorem af1_full : af1.full := newC_length 5 0 10
theorem af2_full : af2.full := newC_length 5 0 10
theorem afc_1 (w : World) : Calls Try.prog 16 #[.string ⟨#[97]⟩, .int .i64 5, .int .i64 0, .int .i64 10] w fun e w' => e = .returned (.tuple #[.agg (af1.fd none 0).cells.toArray, .int .i64 0]) ∧ Below w.heap.size w w' := by
  have := fcounter_any ⟨#[97]⟩ (by decide) 5 0 10 w
  rwa [af_1.1, af_1.2] at this
theorem afc_2 (A : Option Addr) (c : Nat) (w : World) (hd : Row w A 0 []) : Calls Try.prog 17 #[.agg (af1.fd A c).cells.toArray, .int .i64 0, .int .i64 3, .int .i64 9] w fun e w' => ∃ A1 c1, e = .returned (.tuple #[.agg (af2.fd A1 c1).cells.toArray, .int .i64 1, .int .i64 0]) ∧ Got w A 0 w' A1 c1 [⟨0, 1, 3, 9, 1⟩] ∧ Below w.heap.size w w' := by
  have := freserve_any af1 af1_full A c 0 3 9 w hd
  rwa [af_2.1, af_2.2.1, af_2.2.2] at this
end Go.Proofs.Ytofngihdnjgmeaa
