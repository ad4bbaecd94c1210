/- Contracts of rights.told, rights.isReplica, rights.Give and the document's Give. -/
import Derived.Test.YtpbjencigepnfaaRtq
namespace Go.Proofs.Ytpbjencigepnfaa
open Go.ChangeShapes Go.WideShapes Go.ChangeAt Go.RowKit

/-- Is this a replica? -/
def repB (k : Int) : Bool := decide (0 ≤ k) && decide (k < 16)
theorem repB_iff {k : Int} : repB k = true ↔ (0 ≤ k ∧ k < 16) := by simp [repB]
theorem repB_not {k : Int} : repB k = false ↔ (k < 0 ∨ 16 ≤ k) := by rw [← Bool.not_eq_true, repB_iff]; omega

theorem rep_any (k : Int) (w : World) : Calls Try.prog 29 #[.int .i64 k] w fun e w' => e = .returned (.bool (repB k)) ∧ w = w' := by
  by_cases h1 : 0 ≤ k
  · by_cases h2 : k < 16
    · rw [repB_iff.2 ⟨h1, h2⟩]
      go_enter Try.func29, Try.ntmps29
      go_wp2
      go_ret
      exact ⟨rfl, rfl⟩
    · rw [repB_not.2 (by omega)]
      go_enter Try.func29, Try.ntmps29
      go_wp2
      go_ret
      exact ⟨rfl, rfl⟩
  · rw [repB_not.2 (by omega)]
    go_enter Try.func29, Try.ntmps29
    go_wp2
    go_ret
    exact ⟨rfl, rfl⟩

/-- With an error the zero ones. -/
def toldR (R : List Int) (e : Int) : List Int := if e = 0 then R else zer 288
theorem toldR_length {R : List Int} (h : R.length = 288) (e : Int) : (toldR R e).length = 288 := by unfold toldR; split <;> simp [h, zer_length]
theorem toldR_ok (R : List Int) : toldR R 0 = R := by simp [toldR]
theorem toldR_no (R : List Int) {e : Int} (h : e ≠ 0) : toldR R e = zer 288 := by simp [toldR, h]

theorem told_r (R : List Int) (hR : R.length = 288) (x : Int) (w : World) :
    Calls Try.prog 38 #[.agg (vals R).toArray, .int .i64 x] w fun e w' => e = .returned (.tuple #[.agg (vals (toldR R x)).toArray, .int .i64 x]) ∧ Below w.heap.size w w' := by
  have HR := Lib.hid hR; clear hR
  have HK := Lib.hid (KeepR.start w)
  by_cases h : x = 0
  · subst h
    rw [toldR_ok]
    go_enter Try.func38, Try.ntmps38
    go_wp2_with (first
      | (with_reducible refine box_new HK.out rfl _ rfl rfl ?_; intro b u hk hb; clear hb; clear HK; have HK := Lib.hid hk; clear hk)
      | (with_reducible refine alloc_zero HK.out 288 r_zero rfl rfl ?_; intro b u hn hk hb; clear hn; clear hb; clear HK; have HK := Lib.hid hk; clear hk)
      | (with_reducible refine build_zero 288 r_build rfl rfl ?_)
      | (with_reducible refine load_all HK.out 1 288 Try.underlying26 rfl r_info rfl _ rfl rfl rfl HR.out ?_)
      | (with_reducible refine store_all HK.out 0 288 r_info rfl rfl _ _ rfl rfl rfl rfl HR.out (zer_length 288) ?_; intro u hk hs; clear hs; simp only [List.set_cons_zero] at hk; clear HK; have HK := Lib.hid hk; clear hk)
      | (with_reducible refine store_all HK.out 0 288 r_info rfl rfl _ _ rfl rfl rfl rfl (zer_length 288) (zer_length 288) ?_; intro u hk hs; clear hs; simp only [List.set_cons_zero, List.set_cons_succ] at hk; clear HK; have HK := Lib.hid hk; clear hk))
    exact bodyPost_ret (results_r2 rfl _ HK.out 0 _ rfl rfl rfl HR.out) rfl ⟨rfl, HK.out.bel⟩
  · rw [toldR_no R h]
    go_enter Try.func38, Try.ntmps38
    go_wp2_with (first
      | (with_reducible refine box_new HK.out rfl _ rfl rfl ?_; intro b u hk hb; clear hb; clear HK; have HK := Lib.hid hk; clear hk)
      | (with_reducible refine alloc_zero HK.out 288 r_zero rfl rfl ?_; intro b u hn hk hb; clear hn; clear hb; clear HK; have HK := Lib.hid hk; clear hk)
      | (with_reducible refine build_zero 288 r_build rfl rfl ?_)
      | (with_reducible refine load_all HK.out 1 288 Try.underlying26 rfl r_info rfl _ rfl rfl rfl HR.out ?_)
      | (with_reducible refine store_all HK.out 0 288 r_info rfl rfl _ _ rfl rfl rfl rfl HR.out (zer_length 288) ?_; intro u hk hs; clear hs; simp only [List.set_cons_zero, List.set_cons_succ] at hk; clear HK; have HK := Lib.hid hk; clear hk)
      | (with_reducible refine store_all HK.out 0 288 r_info rfl rfl _ _ rfl rfl rfl rfl (zer_length 288) (zer_length 288) ?_; intro u hk hs; clear hs; simp only [List.set_cons_zero] at hk; clear HK; have HK := Lib.hid hk; clear hk))
    exact bodyPost_ret (results_r2 rfl _ HK.out 0 _ rfl rfl rfl (zer_length 288)) rfl ⟨rfl, HK.out.bel⟩
end Go.Proofs.Ytpbjencigepnfaa
