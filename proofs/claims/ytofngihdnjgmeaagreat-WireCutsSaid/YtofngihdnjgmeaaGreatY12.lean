/- Contracts of rights.Right and the document's Right. A contract of the document's Right. Contracts of rights.covered, rights.Use and rights.Move. Contracts of the document's Use and Move. Contracts of rights.Over and of rights.Join's own closure. Contracts of rights.Join and its closure. A contract of rights.Join. Rights, built of two vectors. Contracts of the document's Join and Over.; Counters (579 ints: Init, Low, High, Down, Up): what the document asks of them, in plain lists. No walk.; Counters in memory: what the operations on them do; when two are the same; counters that come in.; Fields in memory: blocks of any cells that a call keeps, beside slices of holds that lie apart from them; the cells of a field, and what the operations on them do.; A field's cells (its name, kind, epoch, counter, lock, and the slice of its holds), and what the operations on kept blocks do: boxes, zeros, loads and stores of a cell or of a part.; Contracts of counter.Join, Room, between and New, and of the document's Join and New.; Contracts of hold.place, Find, Sum and greatest, of the document's Sum, and of the statements' Same.; Contracts of View and Loose, of both.; Names: which may be; contracts of Name, of both. -/
import Derived.Test.YtofngihdnjgmeaaGreatY01
import Derived.Test.YtofngihdnjgmeaaGreatY07
import Derived.Test.YtofngihdnjgmeaaGreatY09
import Derived.Test.YtofngihdnjgmeaaGreatY11
import Derived.Test.YtofngihdnjgmeaaGreatY15A
import Derived.WalkMore
import Derived.WalkKit
import Derived.ProofKit
import Derived.Lib.Hide
import Derived.Below
import Derived.Deep.MidRow
import Derived.Deep.RegionHeld3
import Derived.Deep.QuietTactic
import Derived.BigQuiet
import Derived.OpenShut
import Derived.ChangeOld
import Derived.Maps.AppendAt
import Derived.OwnWalk
import Derived.Laws.OwnMore
import Derived.Laws.StructEq
import Derived.LoopTactic
import Derived.Defers
import Derived.Recover
import Derived.WalkSmall
import Derived.Lib.AppendZeros
import Derived.Deep.OwnRows
import Derived.Deep.Slices
import Derived.ChangeSlices
import Derived.Laws.AppendOwn
import Derived.Lib.SliceRun
import Derived.Shelf.SlSortCmp.WholeK
import Derived.Shelf.SlSortCmp.NoneTotal
namespace Go.Proofs.YtofngihdnjgmeaaGreat
set_option maxRecDepth 100000
open Go.ChangeShapes Go.WideShapes Go.ChangeAt Go.RowKit

/-- May rights be? -/
def rightsB (R : List Int) : Bool := ((List.range 18).all fun j => rightB (seg R (j * 16) 16)) && ((List.range 16).all fun j => R.getD (32 + j * 16 + j) 0 == 0)
theorem rightsB_iff {R : List Int} : rightsB R = true ↔ (∀ j, j < 18 → rightB (seg R (j * 16) 16) = true) ∧ ∀ j, j < 16 → R.getD (32 + j * 16 + j) 0 = 0 := by
  simp [rightsB]
theorem rightsB_vec {R : List Int} {j : Nat} (hj : j < 18) (h : rightB (seg R (j * 16) 16) = false) : false = rightsB R := by
  cases hr : rightsB R with
  | false => rfl
  | true => rw [(rightsB_iff.1 hr).1 j hj] at h; cases h
theorem rightsB_own {R : List Int} {j : Nat} (hj : j < 16) (h : R.getD (32 + j * 16 + j) 0 ≠ 0) : false = rightsB R := by
  cases hr : rightsB R with
  | false => rfl
  | true => exact absurd ((rightsB_iff.1 hr).2 j hj) h

theorem right_r (R : List Int) (hR : R.length = 288) (w : World) :
    Calls Tryz.prog 134 #[.agg (vals R).toArray] w fun e w' => e = .returned (.bool (rightsB R)) ∧ Below w.heap.size w w' := by
  have HR := Lib.hid hR; clear hR
  have HK := Lib.hid (KeepR.start w)
  have HV := Lib.hid True.intro
  go_enter Tryz.func134, Tryz.ntmps134
  go_wp2_with (first
    | (with_reducible refine box_new HK.out rfl _ rfl rfl ?_; intro b u hk hb; clear hb; clear HK; have HK := Lib.hid hk; clear hk)
    | (with_reducible refine load_all HK.out 0 288 Tryz.underlying26 rfl r_info rfl _ rfl rfl rfl HR.out ?_)
    | (go_at_call 157; (with_reducible refine (vectors_any R HR.out _).mono ?_); rintro e u ⟨b2, c2, rfl, hv, hb⟩; have hk := HK.out.call hb; clear hb HV; have HV := Lib.hid (row_at hv HR.out); clear hv; clear HK; have HK := Lib.hid hk; clear hk))
  go_loopw [10] (fun i wr => ∃ k : Nat, k ≤ 18 ∧ i = .int .i64 k ∧ KeepR w [(b, 26, R)] wr ∧ RowAt wr b2 R ∧ ∀ j, j < k → rightB (seg R (j * 16) 16) = true) (fun i _ => 18 - (intOf i).toNat)
  case atStart => exact ⟨0, by omega, rfl, HK.out, HV.out, fun j hj => by omega⟩
  case round =>
    obtain ⟨k, hk0, rfl, hk, hv, hD⟩ := hrel
    clear HK HV
    have HK := Lib.hid hk; have HV := Lib.hid hv; have HD := Lib.hid hD
    clear hk hv hD
    by_cases hlt : k < 18
    · have HL := Lib.hid (seg_length (R := R) (o := k * 16) (n := 16) (by have := HR.out; omega))
      have i1 : (0 : Int) ≤ (k : Int) := by omega
      have i2 : (k : Int) < 18 := by omega
      have hne := Lib.hid True.intro
      cases hrt : rightB (seg R (k * 16) 16) with
      | false =>
        have hrc := right_any (seg R (k * 16) 16) HL.out
        rw [hrt] at hrc
        have HF := Lib.hid (rightsB_vec hlt hrt)
        clear hrt
        go_wp2_with (first
          | (with_reducible refine alloc_zero HK.out 16 v_zero rfl rfl ?_; intro b4 u hn hk hb; clear hne; have hne := Lib.hid (Nat.ne_of_lt (hn ▸ HV.out.lt)); have hv := HV.out.call hb; clear hb hn HV; have HV := Lib.hid hv; clear hv; clear HK; have HK := Lib.hid hk; clear hk)
          | (with_reducible refine store_all HK.out 0 16 vec_info rfl rfl _ _ rfl rfl rfl rfl HL.out (zer_length 16) ?_; intro u hk hs; have hv := HV.out.other hs hne.out; clear hs HV; have HV := Lib.hid hv; clear hv; simp only [List.set_cons_zero] at hk; clear HK; have HK := Lib.hid hk; clear hk)
          | (with_reducible refine load_row HV.out rfl _ rfl rfl (by have := HR.out; omega) ?_)
          | (with_reducible refine load_all HK.out 0 16 Tryz.underlying23 rfl vec_info rfl _ rfl rfl rfl HL.out ?_)
          | (go_at_call 158; (with_reducible refine (hrc _).mono ?_); rintro e u ⟨rfl, hb⟩; have hk := HK.out.call hb; have hv := HV.out.call hb; clear hb HV; have HV := Lib.hid hv; clear hv; clear HK; have HK := Lib.hid hk; clear hk))
        go_ret
        exact ⟨congrArg (fun b => Ending.returned (.bool b)) HF.out, HK.out.bel⟩
      | true =>
        have hrc := right_any (seg R (k * 16) 16) HL.out
        rw [hrt] at hrc
        have HT := Lib.hid hrt
        clear hrt
        go_wp2_with (first
          | (with_reducible refine alloc_zero HK.out 16 v_zero rfl rfl ?_; intro b4 u hn hk hb; clear hne; have hne := Lib.hid (Nat.ne_of_lt (hn ▸ HV.out.lt)); have hv := HV.out.call hb; clear hb hn HV; have HV := Lib.hid hv; clear hv; clear HK; have HK := Lib.hid hk; clear hk)
          | (with_reducible refine store_all HK.out 0 16 vec_info rfl rfl _ _ rfl rfl rfl rfl HL.out (zer_length 16) ?_; intro u hk hs; have hv := HV.out.other hs hne.out; clear hs HV; have HV := Lib.hid hv; clear hv; simp only [List.set_cons_zero] at hk; clear HK; have HK := Lib.hid hk; clear hk)
          | (with_reducible refine load_row HV.out rfl _ rfl rfl (by have := HR.out; omega) ?_)
          | (with_reducible refine load_all HK.out 0 16 Tryz.underlying23 rfl vec_info rfl _ rfl rfl rfl HL.out ?_)
          | (go_at_call 158; (with_reducible refine (hrc _).mono ?_); rintro e u ⟨rfl, hb⟩; have hk := HK.out.call hb; have hv := HV.out.call hb; clear hb HV; have HV := Lib.hid hv; clear hv; clear HK; have HK := Lib.hid hk; clear hk))
        go_roundw
        case rel => exact ⟨k + 1, by omega, by go_num, HK.out.tail, HV.out, fun j hj => by
          by_cases hjk : j = k
          · rw [hjk]; exact HT.out
          · exact HD.out j (by omega)⟩
        case measure => simp [intOf]; omega
    · obtain rfl : k = 18 := by omega
      simp only [show ((18 : Nat) : Int) = 18 from rfl]
      have HL := Lib.hid (seg_length (R := R) (o := 32) (n := 256) (by have := HR.out; omega))
      go_wp2_with (first
        | (with_reducible refine load_part HK.out 0 256 Tryz.underlying24 rfl m_info rfl _ rfl rfl rfl (by have := HR.out; omega) ?_))
      go_loopw [20] (fun i wr => ∃ m : Nat, m ≤ 16 ∧ i = .int .i64 m ∧ KeepR w [(b, 26, R)] wr ∧ ∀ j, j < m → R.getD (32 + j * 16 + j) 0 = 0) (fun i _ => 16 - (intOf i).toNat)
      case atStart => exact ⟨0, by omega, rfl, HK.out, fun j hj => by omega⟩
      case round =>
        obtain ⟨m, hm, rfl, hk, hE⟩ := hrel
        clear HK HV
        have HK := Lib.hid hk; have HE := Lib.hid hE
        clear hk hE
        by_cases hlt : m < 16
        · have hix : ∀ W : World, (Instr.index 24 (.agg (vals (seg R 32 256)).toArray) (.int .i64 (m : Int))).run Tryz.prog W = .ok (.agg (vals (seg (seg R 32 256) (m * 16) 16)).toArray) W := fun W => index_row HL.out hlt W
          rw [show seg (seg R 32 256) (m * 16) 16 = seg R (32 + m * 16) 16 from seg_seg (by omega)] at hix
          have hrl : (seg R (32 + m * 16) 16).length = 16 := seg_length (by have := HR.out; omega)
          have hrg : (seg R (32 + m * 16) 16).getD m 0 = R.getD (32 + m * 16 + m) 0 := seg_get hlt
          generalize hx : R.getD (32 + m * 16 + m) 0 = x at hrg
          have HL2 := Lib.hid hrl; have HG := Lib.hid hrg; have HX := Lib.hid hx
          clear hrl hrg hx
          have j1 : (0 : Int) ≤ (m : Int) := by omega
          have j2 : (m : Int) < 16 := by omega
          by_cases hz : x = 0
          · subst hz
            go_wp2_with (first
              | (with_reducible refine alloc_zero HK.out 16 v_zero rfl rfl ?_; intro b u hn hk hb; clear hn; clear hb; clear HK; have HK := Lib.hid hk; clear hk)
              | (with_reducible refine store_all HK.out 0 16 vec_info rfl rfl _ _ rfl rfl rfl rfl HL2.out (zer_length 16) ?_; intro u hk hs; clear hs; simp only [List.set_cons_zero] at hk; have hc1 := (hk.get 0 rfl).cell (k := m) (by rw [HL2.out]; omega); rw [HG.out] at hc1; clear HK; have HK := Lib.hid hk; clear hk))
            go_roundw
            case rel => exact ⟨m + 1, by omega, by go_num, HK.out.tail, fun j hj => by
              by_cases hjk : j = m
              · rw [hjk]; exact HX.out
              · exact HE.out j (by omega)⟩
            case measure => simp [intOf]; omega
          · have HF := Lib.hid (rightsB_own (R := R) hlt (by rw [HX.out]; exact hz))
            go_wp2_with (first
              | (with_reducible refine alloc_zero HK.out 16 v_zero rfl rfl ?_; intro b u hn hk hb; clear hn; clear hb; clear HK; have HK := Lib.hid hk; clear hk)
              | (with_reducible refine store_all HK.out 0 16 vec_info rfl rfl _ _ rfl rfl rfl rfl HL2.out (zer_length 16) ?_; intro u hk hs; clear hs; simp only [List.set_cons_zero] at hk; have hc1 := (hk.get 0 rfl).cell (k := m) (by rw [HL2.out]; omega); rw [HG.out] at hc1; clear HK; have HK := Lib.hid hk; clear hk))
            go_ret
            exact ⟨congrArg (fun b => Ending.returned (.bool b)) HF.out, HK.out.bel⟩
        · have ht : true = rightsB R := (rightsB_iff.2 ⟨fun j hj => HD.out j (by omega), fun j hj => HE.out j (by omega)⟩).symm
          have HT := Lib.hid ht; clear ht
          go_wp2
          go_ret
          exact ⟨congrArg (fun b => Ending.returned (.bool b)) HT.out, HK.out.bel⟩
end Go.Proofs.YtofngihdnjgmeaaGreat

namespace Go.Proofs.YtofngihdnjgmeaaGreat
set_option maxRecDepth 100000
open Go.ChangeShapes Go.WideShapes Go.ChangeAt Go.RowKit

end Go.Proofs.YtofngihdnjgmeaaGreat

namespace Go.Proofs.YtofngihdnjgmeaaGreat
set_option maxRecDepth 100000
open Go.ChangeShapes Go.WideShapes Go.ChangeAt Go.RowKit

end Go.Proofs.YtofngihdnjgmeaaGreat

namespace Go.Proofs.YtofngihdnjgmeaaGreat
set_option maxRecDepth 100000
open Go.ChangeShapes Go.WideShapes Go.ChangeAt Go.RowKit

end Go.Proofs.YtofngihdnjgmeaaGreat

namespace Go.Proofs.YtofngihdnjgmeaaGreat
set_option maxRecDepth 100000
open Go.ChangeShapes Go.WideShapes Go.ChangeAt Go.RowKit

end Go.Proofs.YtofngihdnjgmeaaGreat

namespace Go.Proofs.YtofngihdnjgmeaaGreat
set_option maxRecDepth 100000
open Go.ChangeShapes Go.WideShapes Go.ChangeAt Go.RowKit

end Go.Proofs.YtofngihdnjgmeaaGreat

namespace Go.Proofs.YtofngihdnjgmeaaGreat
set_option maxRecDepth 100000
open Go.ChangeShapes Go.WideShapes Go.ChangeAt Go.RowKit

theorem KeepR.sub {w u : World} {l l' : List (Nat × TypeId × List Int)} (h : KeepR w l u) (hs : l'.Sublist l) : KeepR w l' u :=
  ⟨h.bel, fun x hx => h.blk x (hs.subset hx), h.apart.sublist (hs.map _)⟩
end Go.Proofs.YtofngihdnjgmeaaGreat

namespace Go.Proofs.YtofngihdnjgmeaaGreat
set_option maxRecDepth 100000
open Go.ChangeShapes Go.WideShapes Go.ChangeAt Go.RowKit

end Go.Proofs.YtofngihdnjgmeaaGreat

namespace Go.Proofs.YtofngihdnjgmeaaGreat
set_option maxRecDepth 100000
open Go.ChangeShapes Go.WideShapes Go.ChangeAt Go.RowKit

end Go.Proofs.YtofngihdnjgmeaaGreat

namespace Go.Proofs.YtofngihdnjgmeaaGreat
set_option maxRecDepth 100000
open Go.ChangeShapes Go.WideShapes Go.ChangeAt Go.RowKit

def dnR (C : List Int) : List Int := seg C 3 288
def upR (C : List Int) : List Int := seg C 291 288
theorem dnR_length {C : List Int} (h : C.length = 579) : (dnR C).length = 288 := seg_length (by omega)
theorem upR_length {C : List Int} (h : C.length = 579) : (upR C).length = 288 := seg_length (by omega)

/-! ### A new one. -/
def newB (i l h : Int) : Bool := isB l && isB h && decide (l ≤ i) && decide (i ≤ h) && isB (h - l)
def newC (i l h : Int) : List Int := (((((zer 579).set 0 i).set 1 l).set 2 h).set 3 (i - l)).set 291 (h - i)
def newE (i l h : Int) : Int := if newB i l h = true then 0 else 2
def newA (i l h : Int) : List Int := if newB i l h = true then newC i l h else zer 579
theorem newC_length (i l h : Int) : (newC i l h).length = 579 := by simp [newC, zer_length]
theorem newA_length (i l h : Int) : (newA i l h).length = 579 := by unfold newA; split; exact newC_length _ _ _; exact zer_length 579
theorem new_yes {i l h : Int} (hb : newB i l h = true) : newE i l h = 0 ∧ newA i l h = newC i l h := by simp [newE, newA, hb]
theorem new_no {i l h : Int} (hb : newB i l h = false) : newE i l h = 2 ∧ newA i l h = zer 579 := by simp [newE, newA, hb]

/-! ### Two changes. -/
/-! ### Joined. -/
/-! ### The value. -/
/-! ### Whether one may be. -/
def tieB (G : List Int) (d : Int) (U : List Int) : Bool := decide (tot G ≤ 1099511627776) && decide (tot G = d + tot U)
def rightC (C : List Int) : Bool := ((isB (C.getD 1 0) && isB (C.getD 2 0) && decide (C.getD 1 0 ≤ C.getD 0 0) && decide (C.getD 0 0 ≤ C.getD 2 0)) && (rightsB (dnR C) && rightsB (upR C))) &&
  (tieB (seg C 3 16) (C.getD 0 0 - C.getD 1 0) (seg C 307 16) && tieB (seg C 291 16) (C.getD 2 0 - C.getD 0 0) (seg C 19 16))
def covB (G : List Int) (h l : Int) (U : List Int) : Bool := (sumE G == 0) && (sumE (h :: ng l :: U) == 0) && (sumN G == sumN (h :: ng l :: U))
theorem rightB_pos {xs : List Int} (h : rightB xs = true) : ∀ z ∈ xs, 0 ≤ z ∧ z ≤ 1099511627776 := by
  intro z hz
  have := List.all_eq_true.1 h z hz
  simpa using this
theorem sum_cases {xs : List Int} (h : ∀ z ∈ xs, 0 ≤ z) : (tot xs ≤ 1099511627776 ∧ sumN xs = tot xs ∧ sumE xs = 0) ∨ (1099511627776 < tot xs ∧ sumN xs = 0 ∧ sumE xs = 2) := by
  by_cases ht : tot xs ≤ 1099511627776
  · exact .inl ⟨ht, sum_fits h ht⟩
  · exact .inr ⟨by omega, sum_over h (by omega)⟩
theorem sum_head {h l : Int} {U : List Int} (hh : isB h = true) (hl : isB l = true) (hle : l ≤ h) (hU : ∀ z ∈ U, 0 ≤ z) : (h - l + tot U ≤ 1099511627776 ∧ sumN (h :: ng l :: U) = h - l + tot U ∧ sumE (h :: ng l :: U) = 0) ∨ (1099511627776 < h - l + tot U ∧ sumN (h :: ng l :: U) = 0 ∧ sumE (h :: ng l :: U) = 2) := by
  obtain ⟨h1, h2⟩ := isB_iff.1 hh
  obtain ⟨l1, l2⟩ := isB_iff.1 hl
  have ht := tot_nonneg hU
  have e : ng l = -l := ng_small (by omega) (by omega)
  have ok1 : okB 0 h (0 + h) = true := okB_iff.2 ⟨isB_zero, hh, by rw [Int.zero_add]; exact hh⟩
  have s1 : sumFrom 0 (h :: ng l :: U) = if okB h (-l) (h + -l) then sumFrom (h + -l) U else none := by rw [sumFrom, if_pos ok1, sumFrom, Int.zero_add, e]
  by_cases hd : h - l ≤ 1099511627776
  · have ok2 : okB h (-l) (h + -l) = true := okB_iff.2 ⟨hh, isB_iff.2 (by omega), isB_iff.2 (by omega)⟩
    rw [if_pos ok2, sumFrom_tot hU _ (by omega) (by omega)] at s1
    by_cases ht : h - l + tot U ≤ 1099511627776
    · rw [if_pos (by omega)] at s1
      obtain ⟨a, b⟩ := sumN_some s1
      exact .inl ⟨ht, by rw [a]; omega, b⟩
    · rw [if_neg (by omega)] at s1
      exact .inr ⟨by omega, sumN_none s1⟩
  · have ok2 : okB h (-l) (h + -l) = false := okB_r (isB_not.2 (by omega))
    rw [if_neg (by simp [ok2])] at s1
    exact .inr ⟨by omega, sumN_none s1⟩
theorem cov_tie {G U : List Int} {h l : Int} (hh : isB h = true) (hl : isB l = true) (hle : l ≤ h) (hG : rightB G = true) (hU : rightB U = true) : covB G h l U = tieB G (h - l) U := by
  have hG' := rightB_pos hG
  have hU' := rightB_pos hU
  unfold covB tieB
  rcases sum_cases (fun z hz => (hG' z hz).1) with ⟨g1, g2, g3⟩ | ⟨g1, g2, g3⟩
  · rcases sum_head hh hl hle (fun z hz => (hU' z hz).1) with ⟨u1, u2, u3⟩ | ⟨u1, u2, u3⟩
    · rw [g2, g3, u2, u3, Bool.eq_iff_iff]; simp [g1]
    · rw [g2, g3, u2, u3, Bool.eq_iff_iff]; simp; omega
  · rw [g2, g3, Bool.eq_iff_iff]; simp; omega
theorem rights_vecs {R : List Int} (h : rightsB R = true) : rightB (seg R 0 16) = true ∧ rightB (seg R 16 16) = true := by
  have := (rightsB_iff.1 h).1
  exact ⟨this 0 (by omega), this 1 (by omega)⟩
theorem dn_given (C : List Int) : seg (dnR C) 0 16 = seg C 3 16 := seg_seg (by omega)
theorem dn_used (C : List Int) : seg (dnR C) 16 16 = seg C 19 16 := seg_seg (by omega)
theorem up_given (C : List Int) : seg (upR C) 0 16 = seg C 291 16 := seg_seg (by omega)
theorem up_used (C : List Int) : seg (upR C) 16 16 = seg C 307 16 := seg_seg (by omega)
/-- The vectors of a counter whose rights may be. -/
theorem c_vecs {C : List Int} (h1 : rightsB (dnR C) = true) (h2 : rightsB (upR C) = true) : rightB (seg C 3 16) = true ∧ rightB (seg C 19 16) = true ∧ rightB (seg C 291 16) = true ∧ rightB (seg C 307 16) = true := by
  have a := rights_vecs h1
  have b := rights_vecs h2
  rw [dn_given, dn_used] at a
  rw [up_given, up_used] at b
  exact ⟨a.1, a.2, b.1, b.2⟩
end Go.Proofs.YtofngihdnjgmeaaGreat

namespace Go.Proofs.YtofngihdnjgmeaaGreat
set_option maxRecDepth 100000
open Go.ChangeShapes Go.WideShapes Go.ChangeAt Go.RowKit

theorem c_info : (Tryz.prog.info? 28).map (·.size) = some 579 := by kernel_rfl
theorem c_zero : (Tryz.prog.info? 28).bind (·.zero) = some (.agg (vals (zer 579)).toArray) := by kernel_rfl
theorem c_build (W : World) : (Instr.build 28 #[]).run Tryz.prog W = .ok (.agg (vals (zer 579)).toArray) W := by kernel_rfl
def three (a b c : Int) : List Int := (((zer 579).set 0 a).set 1 b).set 2 c
theorem three_length (a b c : Int) : (three a b c).length = 579 := by simp [three, zer_length]
theorem c_build3 (a b c : Int) (W : World) : (Instr.build 28 #[(0, .int .i64 a), (1, .int .i64 b), (2, .int .i64 c)]).run Tryz.prog W = .ok (.agg (vals (three a b c)).toArray) W := by kernel_rfl
theorem build_three {ops : Array Oper} {rest : List Oper} {o : Oper} {a : Act} {u : World} {Q : Exit → Act → World → Prop} (hgd : o.guard = none) (x y z : Operand) (ho : o.op = .build 28 #[(0, x), (1, y), (2, z)]) {p q r : Int}
    (hx : a.eval x = .int .i64 p) (hy : a.eval y = .int .i64 q) (hz : a.eval z = .int .i64 r)
    (h : wpList Tryz.prog ops Q rest (a.put o.dst (.agg (vals (three p q r)).toArray)) u) : wpList Tryz.prog ops Q (o :: rest) a u :=
  wpList_plain hgd fun K hK => by
    unfold Oper.wp execOp
    simp only [ho, List.map_toArray, List.map_cons, List.map_nil, hx, hy, hz, Sem.run_bind, Sem.run_pure, Result.andThen_ok, c_build3]
    exact hK _ _ h
theorem new_stores (i l h : Int) : ((three i l h).set 3 (i - l)).set 291 (h - i) = newC i l h := rfl

/-! ### Ints in kept blocks. -/
/-! ### Results. -/
/-! ### Equality. -/
theorem c_fields : (Tryz.prog.fieldsOf 28).toList.map (fun f => (f.type, f.offset, f.name)) = [(3, 0, "Init"), (3, 1, "Low"), (3, 2, "High"), (26, 3, "Down"), (26, 291, "Up")] := by kernel_rfl
theorem c_under : Tryz.prog.underlying 28 = some (.struct (Tryz.prog.fieldsOf 28)) := by kernel_rfl
theorem rr_size : ∀ w, (sizeOf 26).run Tryz.prog w = .ok 288 w := fun w => by kernel_rfl
theorem fields5 {fs : List Field} {x1 x2 x3 x4 x5 : TypeId × Nat × String} (h : fs.map (fun f => (f.type, f.offset, f.name)) = [x1, x2, x3, x4, x5]) : ∃ f1 f2 f3 f4 f5, fs = [f1, f2, f3, f4, f5] ∧ (f1.type, f1.offset, f1.name) = x1 ∧ (f2.type, f2.offset, f2.name) = x2 ∧ (f3.type, f3.offset, f3.name) = x3 ∧ (f4.type, f4.offset, f4.name) = x4 ∧ (f5.type, f5.offset, f5.name) = x5 := by
  match fs, h with
  | [f1, f2, f3, f4, f5], h => exact ⟨f1, f2, f3, f4, f5, rfl, by simpa using h⟩
theorem same_c {C D : List Int} (hC : C.length = 579) (hD : D.length = 579) : ((C.getD 0 0 == D.getD 0 0) && ((C.getD 1 0 == D.getD 1 0) && ((C.getD 2 0 == D.getD 2 0) && ((dnR C == dnR D) && ((upR C == upR D) && true))))) = (C == D) := by
  rw [Bool.eq_iff_iff]
  simp only [Bool.and_eq_true, beq_iff_eq, and_true]
  constructor
  · rintro ⟨h0, h1, h2, h3, h4⟩
    refine ext_get (by omega) fun k hk => ?_
    by_cases k0 : k < 3
    · have : k = 0 ∨ k = 1 ∨ k = 2 := by omega
      rcases this with rfl | rfl | rfl
      · exact h0
      · exact h1
      · exact h2
    · by_cases k1 : k < 291
      · have := congrArg (fun l => l.getD (k - 3) 0) h3
        simp only [dnR] at this
        rwa [seg_get (by omega), seg_get (by omega), show 3 + (k - 3) = k by omega] at this
      · have := congrArg (fun l => l.getD (k - 291) 0) h4
        simp only [upR] at this
        rwa [seg_get (by omega), seg_get (by omega), show 291 + (k - 291) = k by omega] at this
  · rintro rfl; exact ⟨rfl, rfl, rfl, rfl, rfl⟩
theorem eql_c (C D : List Int) (hC : C.length = 579) (hD : D.length = 579) (w : World) : (Op.equalIn 10000 28 (.agg (vals C).toArray) (.agg (vals D).toArray)).run Tryz.prog w = .ok (C == D) w := by
  have hst := run_equalIn_struct (P := Tryz.prog) w 9999 28 (vals C).toArray (vals D).toArray c_under (by kernel_rfl)
  have hi : ∀ x y : Int, (Op.equalIn 9999 3 (.int .i64 x) (.int .i64 y)).run Tryz.prog w = .ok (x == y) w := fun x y => run_equalIn_int w 9998 3 .i64 .i64 x y Tryz.underlying3
  have hr : ∀ R T : List Int, R.length = 288 → T.length = 288 → (Op.equalIn 9999 26 (.agg (vals R).toArray) (.agg (vals T).toArray)).run Tryz.prog w = .ok (R == T) w := fun R T h1 h2 => eql_r_any 9995 R T h1 h2 w
  have q := fun xs o => part_row (P := Tryz.prog) Tryz.underlying26 rfl rr_size xs o w
  obtain ⟨f1, f2, f3, f4, f5, hf, e1, e2, e3, e4, e5⟩ := fields5 c_fields
  injection e1 with e1a e1; injection e1 with e1b e1c
  injection e2 with e2a e2; injection e2 with e2b e2c
  injection e3 with e3a e3; injection e3 with e3b e3c
  injection e4 with e4a e4; injection e4 with e4b e4c
  injection e5 with e5a e5; injection e5 with e5b e5c
  rw [hst, hf, ← same_c hC hD]
  clear hst hf
  refine eqField (by rw [e1c]; decide) (by rw [e1a, e1b]; exact part_int C (by omega) w) (by rw [e1a, e1b]; exact part_int D (by omega) w) (by rw [e1a]; exact hi _ _) ?_
  refine eqField (by rw [e2c]; decide) (by rw [e2a, e2b]; exact part_int C (by omega) w) (by rw [e2a, e2b]; exact part_int D (by omega) w) (by rw [e2a]; exact hi _ _) ?_
  refine eqField (by rw [e3c]; decide) (by rw [e3a, e3b]; exact part_int C (by omega) w) (by rw [e3a, e3b]; exact part_int D (by omega) w) (by rw [e3a]; exact hi _ _) ?_
  refine eqField (by rw [e4c]; decide) (by rw [e4a, e4b]; exact q C 3) (by rw [e4a, e4b]; exact q D 3) (by rw [e4a]; exact hr _ _ (dnR_length hC) (dnR_length hD)) ?_
  refine eqField (by rw [e5c]; decide) (by rw [e5a, e5b]; exact q C 291) (by rw [e5a, e5b]; exact q D 291) (by rw [e5a]; exact hr _ _ (upR_length hC) (upR_length hD)) ?_
  simp [Op.eqFields]

/-! ### Counters that come in. -/
end Go.Proofs.YtofngihdnjgmeaaGreat

namespace Go.Proofs.YtofngihdnjgmeaaGreat
set_option maxRecDepth 100000
open Go.ChangeShapes Go.WideShapes Go.ChangeAt Go.RowKit

/-! ### Cells. -/
/-- A block of its own that holds these cells, of some type. -/
def Cel (w : World) (b : Nat) (t : TypeId) (cs : List Value) : Prop := w.heap[b]? = some (.cells cs.toArray t (0, 0))
theorem Cel.lt {w : World} {b : Nat} {t : TypeId} {cs : List Value} (h : Cel w b t cs) : b < w.heap.size := (Array.getElem?_eq_some_iff.1 h).1
theorem Cel.cell {w : World} {b : Nat} {t : TypeId} {cs : List Value} (h : Cel w b t cs) {k : Nat} {v : Value} (hk : cs[k]? = some v) : w.cell? ⟨b, k, none⟩ = some v := by
  rw [cell_of_row w b k _ t (0, 0) h]
  simpa using hk
theorem Cel.range {w : World} {b : Nat} {t : TypeId} {cs : List Value} (h : Cel w b t cs) {o : Nat} {xs : List Value} (hx : ∀ j v, xs[j]? = some v → cs[o + j]? = some v) : w.rangeAt b o xs := fun j v hv => h.cell (hx j v hv)
theorem Cel.frozen {w : World} {b : Nat} {t : TypeId} {cs : List Value} (h : Cel w b t cs) (k : Nat) : w.frozen? ⟨b, k, none⟩ = false := frozen_of_row w b k _ t h
theorem Cel.there {w : World} {b : Nat} {t : TypeId} {cs : List Value} (h : Cel w b t cs) {o n : Nat} (hn : o + n ≤ cs.length) : w.there b o n := fun j hj => by
  refine ⟨?_, h.frozen _⟩
  rw [h.cell (v := cs[o + j]'(by omega)) (List.getElem?_eq_getElem (by omega))]; rfl
theorem Cel.below {w w' : World} {b : Nat} {t : TypeId} {cs : List Value} (h : Cel w b t cs) {B : Nat} (hb : Below B w w') (hl : b < B) : Cel w' b t cs := (hb.block b hl).trans h
theorem Cel.new (w : World) (t : TypeId) (cs : List Value) : Cel (w.alloc (.cells cs.toArray t)) w.heap.size t cs := heap_alloc_new w _
theorem Cel.setCell {w : World} {b : Nat} {t : TypeId} {cs : List Value} (h : Cel w b t cs) (k : Nat) (v : Value) : Cel (w.setCell ⟨b, k, none⟩ v) b t (cs.set k v) := by
  unfold Cel
  rw [heap_setCell_same w b k _ t _ h]
  simp
/-- vs in the place of what lay from o on. -/
def spl (R : List Value) : Nat → List Value → List Value
  | _, [] => R
  | o, v :: vs => spl (R.set o v) (o + 1) vs
theorem spl_mid : ∀ (new old pre post : List Value), old.length = new.length → spl (pre ++ (old ++ post)) pre.length new = pre ++ (new ++ post)
  | [], [], pre, post, _ => by simp [spl]
  | v :: new, x :: old, pre, post, h => by
    have ih := spl_mid new old (pre ++ [v]) post (by simpa using h)
    have e : (pre ++ (x :: old ++ post)).set pre.length v = (pre ++ [v]) ++ (old ++ post) := by
      rw [List.set_append_right _ _ (Nat.le_refl _)]
      simp
    rw [spl, e]
    simpa using ih
theorem Cel.setCells {b : Nat} {t : TypeId} : ∀ (vs : List Value) {w : World} {cs : List Value} (_ : Cel w b t cs) (o : Nat), Cel (w.setCells b o vs) b t (spl cs o vs)
  | [], _, _, h, _ => h
  | v :: vs, _, _, h, o => Cel.setCells vs (h.setCell o v) (o + 1)
theorem below_cells {B b : Nat} {a : World} (hg : B ≤ b) : ∀ (vs : List Value) {w : World} (_ : Below B a w) (o : Nat), Below B a (w.setCells b o vs)
  | [], _, h, _ => h
  | v :: vs, _, h, o => below_cells hg vs (h.setCell (p := ⟨b, o, none⟩) hg v) (o + 1)
theorem cell_heap {u u' : World} {a : Addr} (h : u'.heap[a.block]? = u.heap[a.block]?) : u'.cell? a = u.cell? a := by simp [World.cell?, h]
/-- A slice of holds whose block was not touched. -/
theorem Row.else {u u' : World} {A : Option Addr} {n : Nat} {hs : List Ho} (h : Row u A n hs) (he : ∀ a, A = some a → 0 < n → u'.heap[a.block]? = u.heap[a.block]?) : Row u' A n hs := by
  obtain ⟨h1, h2, h3⟩ := h
  refine ⟨h1, h2, ?_⟩
  rcases h3 with h0 | ⟨b, off, rfl, hc⟩
  · exact .inl h0
  · rcases Nat.eq_zero_or_pos n with h0 | h0
    · exact .inl h0
    · exact .inr ⟨b, off, rfl, fun k hk j v hv => by rw [cell_heap (a := ⟨b, off + k * 5 + j, none⟩) (he ⟨b, off, none⟩ rfl h0)]; exact hc k hk j v hv⟩
theorem Row.lt {u : World} {A : Option Addr} {n : Nat} {hs : List Ho} (h : Row u A n hs) {a : Addr} (ha : A = some a) (hn : 0 < n) : a.block < u.heap.size := by
  obtain ⟨b, off, rfl, hc⟩ := h.at hn
  injection ha with ha
  subst ha
  exact range_lt (hc 0 hn)

/-! ### What is kept. -/
/-- Below w's end all is as it was; these blocks of the call's own lie there; these slices of holds read so, and lie in none of them. -/
structure KeepF (w : World) (l : List (Nat × TypeId × List Value)) (rows : List (Option Addr × Nat × List Ho)) (u : World) : Prop where
  bel : Below w.heap.size w u
  blk : ∀ x ∈ l, w.heap.size ≤ x.1 ∧ Cel u x.1 x.2.1 x.2.2
  apart : (l.map Prod.fst).Nodup
  row : ∀ r ∈ rows, Row u r.1 r.2.1 r.2.2
  free : ∀ r ∈ rows, ∀ x ∈ l, ∀ a, r.1 = some a → 0 < r.2.1 → a.block ≠ x.1
section
variable {w u u' : World} {l : List (Nat × TypeId × List Value)} {rows : List (Option Addr × Nat × List Ho)}
theorem KeepF.start (h : ∀ r ∈ rows, Row w r.1 r.2.1 r.2.2) : KeepF w [] rows w := ⟨Below.refl _ _, by simp, by simp, h, by simp⟩
theorem KeepF.get (h : KeepF w l rows u) (i : Nat) {b : Nat} {t : TypeId} {cs : List Value} (hi : l[i]? = some (b, t, cs)) : Cel u b t cs := (h.blk _ (List.mem_of_getElem? hi)).2
theorem KeepF.rowAt (h : KeepF w l rows u) (i : Nat) {A : Option Addr} {n : Nat} {hs : List Ho} (hi : rows[i]? = some (A, n, hs)) : Row u A n hs := h.row _ (List.mem_of_getElem? hi)
theorem KeepF.call (h : KeepF w l rows u) (hb : Below u.heap.size u u') : KeepF w l rows u' :=
  ⟨h.bel.trans (hb.mono h.bel.size), fun x hx => ⟨(h.blk x hx).1, (h.blk x hx).2.below hb (h.blk x hx).2.lt⟩, h.apart, fun r hr => (h.row r hr).call hb, h.free⟩
theorem KeepF.drew (h : KeepF w l rows u) : KeepF w l rows u.drew := ⟨h.bel.drew, h.blk, h.apart, h.row, h.free⟩
theorem KeepF.cons (h : KeepF w l rows u) (hb : Below u.heap.size u u') {b : Nat} {t : TypeId} {cs : List Value} (hn : b = u.heap.size) (hB : Cel u' b t cs) : KeepF w ((b, t, cs) :: l) rows u' := by
  have h1 := h.call hb
  refine ⟨h1.bel, fun x hx => ?_, ?_, h1.row, fun r hr x hx a ha h0 => ?_⟩
  · rcases List.mem_cons.1 hx with rfl | hx
    · exact ⟨hn ▸ h.bel.size, hB⟩
    · exact h1.blk x hx
  · simp only [List.map_cons, List.nodup_cons]
    refine ⟨fun hm => ?_, h.apart⟩
    obtain ⟨x, hx, e⟩ := List.mem_map.1 hm
    have := (h.blk x hx).2.lt
    omega
  · rcases List.mem_cons.1 hx with rfl | hx
    · have := (h.row r hr).lt ha h0
      simp only
      omega
    · exact h.free r hr x hx a ha h0
theorem KeepF.new (h : KeepF w l rows u) {t : TypeId} {cs : List Value} {n : Nat} (hn : n = u.heap.size) : KeepF w ((n, t, cs) :: l) rows (u.alloc (.cells cs.toArray t)) :=
  h.cons ((Below.refl _ _).alloc (Nat.le_refl _) _) hn (by rw [hn]; exact Cel.new u t cs)
theorem KeepF.tail {x : Nat × TypeId × List Value} (h : KeepF w (x :: l) rows u) : KeepF w l rows u :=
  ⟨h.bel, fun y hy => h.blk y (List.mem_cons_of_mem _ hy), (List.nodup_cons.1 (by simpa using h.apart)).2, h.row, fun r hr y hy => h.free r hr y (List.mem_cons_of_mem _ hy)⟩
/-- Other slices are looked at. -/
theorem KeepF.look {rows' : List (Option Addr × Nat × List Ho)} (h : KeepF w l rows u) (hr : ∀ r ∈ rows', r ∈ rows) : KeepF w l rows' u := ⟨h.bel, h.blk, h.apart, fun r h1 => h.row r (hr r h1), fun r h1 => h.free r (hr r h1)⟩
/-- One slice more, that a call made. -/
theorem KeepF.own (h : KeepF w l rows u) (hb : Below u.heap.size u u') {A : Option Addr} {n c : Nat} {hs : List Ho} (ho : Own u' u.heap.size (.slice A n c) hs) (hn : hs.length ≤ 1000) : KeepF w l ((A, n, hs) :: rows) u' := by
  have h1 := h.call hb
  refine ⟨h1.bel, h1.blk, h1.apart, fun r hr => ?_, fun r hr x hx a ha h0 => ?_⟩
  · rcases List.mem_cons.1 hr with rfl | hr
    · exact ho.row hn
    · exact h1.row r hr
  · rcases List.mem_cons.1 hr with rfl | hr
    · have h2 := (h.blk x hx).2.lt
      have h3 : a.block ≥ u.heap.size := by
        have h4 : (Value.slice A n c).ownBlock = some a.block → u.heap.size ≤ a.block := fun e => own_baseH ho _ e
        simp only at ha
        subst ha
        rcases ho.2 with ⟨e, _⟩ | ⟨g, cap, cur, e, h5, _⟩
        · injection e with e1 e2 e3; cases e1
        · injection e with e1 e2 e3
          injection e1 with e1
          subst e1
          exact h5
      omega
    · exact h1.free r hr x hx a ha h0
/-- A kept block is written. -/
theorem KeepF.put (h : KeepF w l rows u) (i : Nat) {b : Nat} {t : TypeId} {R : List Value} (hi : l[i]? = some (b, t, R)) {S : List Value} (hB : Cel u' b t S)
    (hb : ∀ (k : Nat), k ≠ b → u'.heap[k]? = u.heap[k]?) (hbel : Below w.heap.size w u') : KeepF w (l.set i (b, t, S)) rows u' := by
  have hm := List.mem_of_getElem? hi
  have hfst : (l.set i (b, t, S)).map Prod.fst = l.map Prod.fst := by
    rw [List.map_set]
    apply List.ext_getElem?
    intro j
    rw [List.getElem?_set]
    split
    · rename_i e; subst e
      split
      · simp [hi]
      · rename_i hl; simp only [List.length_map] at hl; have := (List.getElem?_eq_some_iff.1 hi).1; omega
    · rfl
  refine ⟨hbel, fun x hx => ?_, by rw [hfst]; exact h.apart, fun r hr => (h.row r hr).else fun a ha h0 => hb _ (h.free r hr _ hm a ha h0), fun r hr x hx a ha h0 => ?_⟩
  · obtain ⟨j, hj⟩ := List.mem_iff_getElem?.1 hx
    rw [List.getElem?_set] at hj
    by_cases hij : i = j
    · rw [if_pos hij] at hj
      split at hj
      · injection hj with hj; subst hj
        exact ⟨(h.blk _ hm).1, hB⟩
      · cases hj
    · rw [if_neg hij] at hj
      have h1 := h.blk x (List.mem_of_getElem? hj)
      refine ⟨h1.1, ?_⟩
      have hne : x.1 ≠ b := fun e => hij (nodup_get h.apart (x := b) (by simp [hi]) (by simp [hj, e]))
      exact (hb x.1 hne).trans h1.2
  · rcases List.mem_or_eq_of_mem_set hx with hx | rfl
    · exact h.free r hr x hx a ha h0
    · exact h.free r hr _ hm a ha h0
theorem KeepF.setCells (h : KeepF w l rows u) (i : Nat) {b : Nat} {t : TypeId} {R : List Value} (hi : l[i]? = some (b, t, R)) (o : Nat) (vs : List Value) : KeepF w (l.set i (b, t, spl R o vs)) rows (u.setCells b o vs) :=
  have h1 := h.blk _ (List.mem_of_getElem? hi)
  h.put i hi (h1.2.setCells vs o) (setCells_else b vs o u) (below_cells h1.1 vs h.bel o)
theorem KeepF.setCell (h : KeepF w l rows u) (i : Nat) {b : Nat} {t : TypeId} {R : List Value} (hi : l[i]? = some (b, t, R)) (o : Nat) (v : Value) : KeepF w (l.set i (b, t, R.set o v)) rows (u.setCell ⟨b, o, none⟩ v) :=
  have h1 := h.blk _ (List.mem_of_getElem? hi)
  h.put i hi (h1.2.setCell o v) (fun k hk => heap_setCell_other u ⟨b, o, none⟩ k _ hk) (h.bel.setCell (p := ⟨b, o, none⟩) h1.1 v)
end
end Go.Proofs.YtofngihdnjgmeaaGreat

namespace Go.Proofs.YtofngihdnjgmeaaGreat
set_option maxRecDepth 100000
open Go.ChangeShapes Go.WideShapes Go.ChangeAt Go.RowKit

/-- A field, as its cells tell it: the holds by their slice alone. -/
structure Fd where
  nm : ByteArray
  k : Int
  e : Int
  C : List Int
  L : Lk
  A : Option Addr
  n : Nat
  c : Nat
def Fd.cells (f : Fd) : List Value := [.string f.nm, .int .i64 f.k, .int .i64 f.e] ++ (vals f.C ++ (vals f.L.l ++ [.slice f.A f.n f.c]))
def Fd.val (f : Fd) : Value := .agg f.cells.toArray
/-- The zero field. -/
def zL : Lk := ⟨0, 0, 0, 0⟩
def zF : Fd := ⟨ByteArray.empty, 0, 0, zer 579, zL, none, 0, 0⟩
def Fd.full (f : Fd) : Prop := f.C.length = 579
theorem Fd.len {f : Fd} (h : f.full) : f.cells.length = 587 := by
  have h : f.C.length = 579 := h
  simp [Fd.cells, vals_length, Lk.len, h]
theorem Fd.c0 (f : Fd) : f.cells[0]? = some (.string f.nm) := rfl
theorem Fd.c1 (f : Fd) : f.cells[1]? = some (.int .i64 f.k) := rfl
theorem Fd.c2 (f : Fd) : f.cells[2]? = some (.int .i64 f.e) := rfl
theorem Fd.cC (f : Fd) : ∀ j v, (vals f.C)[j]? = some v → f.cells[3 + j]? = some v := by
  intro j v hv
  have hj := (List.getElem?_eq_some_iff.1 hv).1
  rw [Fd.cells, List.getElem?_append_right (by simp), List.getElem?_append_left (by simpa using hj)]
  simpa using hv
theorem Fd.cL {f : Fd} (h : f.full) : ∀ j v, (vals f.L.l)[j]? = some v → f.cells[582 + j]? = some v := by
  intro j v hv
  have h : f.C.length = 579 := h
  have hj := (List.getElem?_eq_some_iff.1 hv).1
  rw [Fd.cells, List.getElem?_append_right (by simp; omega), List.getElem?_append_right (by simp [vals_length, h]; omega), List.getElem?_append_left (by simp [vals_length, h]; simp [vals_length] at hj; omega)]
  simp only [vals_length, h, List.length_cons, List.length_nil]
  rw [show 582 + j - (0 + 1 + 1 + 1) - 579 = j by omega]
  exact hv
theorem Fd.cH {f : Fd} (h : f.full) : f.cells[586]? = some (.slice f.A f.n f.c) := by
  have h : f.C.length = 579 := h
  rw [Fd.cells, List.getElem?_append_right (by simp), List.getElem?_append_right (by simp [vals_length, h]), List.getElem?_append_right (by simp [vals_length, h, Lk.len])]
  simp [vals_length, h, Lk.len]
theorem Fd.all (f : Fd) : ∀ j v, f.cells[j]? = some v → f.cells[0 + j]? = some v := fun j v h => by rw [Nat.zero_add]; exact h
theorem Fd.one (f : Fd) : f.cells.toArray.all (·.oneCell') = true := all_oneCell_toArray (by
  intro v hv
  simp only [Fd.cells, List.mem_append, List.mem_cons, List.not_mem_nil, or_false] at hv
  rcases hv with (rfl | rfl | rfl) | hv | hv | rfl
  · rfl
  · rfl
  · rfl
  · exact vals_one _ v hv
  · exact vals_one _ v hv
  · rfl)
/-- Other parts in their place. -/
theorem Fd.setC {f : Fd} (h : f.full) {D : List Int} (hD : D.length = 579) : spl f.cells 3 (vals D) = { f with C := D }.cells :=
  spl_mid (vals D) (vals f.C) [.string f.nm, .int .i64 f.k, .int .i64 f.e] _ (by rw [vals_length, vals_length, hD]; exact h)
theorem Fd.setH {f : Fd} (h : f.full) (A : Option Addr) (n c : Nat) : f.cells.set 586 (.slice A n c) = { f with A := A, n := n, c := c }.cells := by
  have h : f.C.length = 579 := h
  have := spl_mid [.slice A n c] [.slice f.A f.n f.c] ([.string f.nm, .int .i64 f.k, .int .i64 f.e] ++ (vals f.C ++ vals f.L.l)) [] (by simp)
  simp only [List.length_append, vals_length, h, List.length_cons, List.length_nil, List.append_assoc, Lk.len, spl, List.append_nil] at this
  exact this
theorem Fd.setAll {f g : Fd} (h : f.full) (hg : g.full) : spl f.cells 0 g.cells = g.cells := by
  have := spl_mid g.cells f.cells [] [] (by rw [Fd.len h, Fd.len hg])
  simpa using this
theorem f_info : (Tryz.prog.info? 33).map (·.size) = some 587 := by kernel_rfl
theorem f_zero : (Tryz.prog.info? 33).bind (·.zero) = some (.agg zF.cells.toArray) := by kernel_rfl
theorem f_build (W : World) : (Instr.build 33 #[]).run Tryz.prog W = .ok zF.val W := by kernel_rfl

section
variable {ops : Array Oper} {rest : List Oper} {o : Oper} {a : Act} {w u : World} {l : List (Nat × TypeId × List Value)} {rows : List (Option Addr × Nat × List Ho)} {Q : Exit → Act → World → Prop} {K : Act → World → Prop}
/-- A value, boxed. -/
theorem wp_box_f (hk : KeepF w l rows u) {ty : TypeId} (x : Operand) (ho : o.op = .box ty x) {cs : List Value} (hx : a.eval x = .agg cs.toArray)
    (h : ∀ b u', KeepF w ((b, ty, cs) :: l) rows u' → K (a.put o.dst (.pointer (some ⟨b, 0, none⟩))) u') : o.wp Tryz.prog a u K Q := by
  have e : (Instr.box ty (.agg cs.toArray)).run Tryz.prog u = .ok (.pointer (some ⟨u.heap.size, 0, none⟩)) (u.alloc (.cells cs.toArray ty)) := by
    simp [Instr.box, newVar, newRow, newObj, Value.cells]
    rfl
  unfold Oper.wp execOp
  simp only [ho, hx, Sem.run_bind, Sem.run_pure, Result.andThen_ok, e]
  exact h _ _ (hk.new rfl)
theorem box_f (hk : KeepF w l rows u) {ty : TypeId} (hgd : o.guard = none) (x : Operand) (ho : o.op = .box ty x) {cs : List Value} (hx : a.eval x = .agg cs.toArray)
    (h : ∀ b u', KeepF w ((b, ty, cs) :: l) rows u' → wpList Tryz.prog ops Q rest (a.put o.dst (.pointer (some ⟨b, 0, none⟩))) u') : wpList Tryz.prog ops Q (o :: rest) a u :=
  wpList_plain hgd fun _ hK => wp_box_f hk x ho hx fun b u' h' => hK _ _ (h b u' h')
/-- An int, boxed. -/
theorem box_fi (hk : KeepF w l rows u) (hgd : o.guard = none) (x : Operand) (ho : o.op = .box 3 x) {z : Int} (hx : a.eval x = .int .i64 z)
    (h : ∀ b u', KeepF w ((b, 3, [.int .i64 z]) :: l) rows u' → wpList Tryz.prog ops Q rest (a.put o.dst (.pointer (some ⟨b, 0, none⟩))) u') : wpList Tryz.prog ops Q (o :: rest) a u :=
  wpList_plain hgd fun K hK => by
    have e : (Instr.box 3 (.int .i64 z)).run Tryz.prog u = .ok (.pointer (some ⟨u.heap.size, 0, none⟩)) (u.alloc (.cells [.int .i64 z].toArray 3)) := by
      simp [Instr.box, newVar, newRow, newObj, Value.cells]
      rfl
    unfold Oper.wp execOp
    simp only [ho, hx, Sem.run_bind, Sem.run_pure, Result.andThen_ok, e]
    exact hK _ _ (h _ _ (hk.new rfl))
/-- A new variable of zeros. -/
theorem alloc_f (hk : KeepF w l rows u) {ty : TypeId} {cs : List Value} (hz : (Tryz.prog.info? ty).bind (·.zero) = some (.agg cs.toArray)) (hgd : o.guard = none) (ho : o.op = .alloc ty)
    (h : ∀ b u', KeepF w ((b, ty, cs) :: l) rows u' → wpList Tryz.prog ops Q rest (a.put o.dst (.pointer (some ⟨b, 0, none⟩))) u') : wpList Tryz.prog ops Q (o :: rest) a u :=
  wpList_plain hgd fun K hK => by
    have e : (Instr.alloc ty true (.tuple #[])).run Tryz.prog u = .ok (.pointer (some ⟨u.heap.size, 0, none⟩)) (u.alloc (.cells cs.toArray ty)) := by
      cases hq : Tryz.prog.info? ty with
      | none => simp [hq] at hz
      | some i =>
        simp only [hq, Option.bind_some] at hz
        simp [Instr.alloc, zeroValue, typeInfo, hq, hz, newVar, newRow, newObj, Value.cells]
        rfl
    unfold Oper.wp execOp
    simp only [ho, Sem.run_bind, Sem.run_pure, Result.andThen_ok, e]
    exact hK _ _ (h _ _ (hk.new rfl))
/-- The zero value, built. -/
theorem build_f {ty : TypeId} {v : Value} (he : ∀ W, (Instr.build ty #[]).run Tryz.prog W = .ok v W) (hgd : o.guard = none) (ho : o.op = .build ty #[])
    (h : wpList Tryz.prog ops Q rest (a.put o.dst v) u) : wpList Tryz.prog ops Q (o :: rest) a u :=
  wpList_plain hgd fun K hK => by
    unfold Oper.wp execOp
    simp only [ho, List.map_toArray, List.map_nil, Sem.run_bind, Sem.run_pure, Result.andThen_ok, he]
    exact hK _ _ h
/-! ### Loads. -/
theorem run_load_cell {W : World} {ad : Addr} {v : Value} (hc : W.cell? ad = some v) : (Instr.loadAt 9 (.pointer (some ad))).run Tryz.prog W = .ok v W ∧ (Instr.loadAt 3 (.pointer (some ad))).run Tryz.prog W = .ok v W ∧ (Instr.loadAt 31 (.pointer (some ad))).run Tryz.prog W = .ok v W := by
  refine ⟨?_, ?_, ?_⟩ <;> simp [go_sem, hc]
/-- A cell of a kept block is loaded: an int, a text, a slice. -/
def cellB (ty : TypeId) : Bool := ty == 9 || ty == 3 || ty == 31
theorem run_load_f1 {W : World} {ad : Addr} {v : Value} {ty : TypeId} (ht : cellB ty = true) (hc : W.cell? ad = some v) : (Instr.loadAt ty (.pointer (some ad))).run Tryz.prog W = .ok v W := by
  simp only [cellB, Bool.or_eq_true, beq_iff_eq] at ht
  rcases ht with (rfl | rfl) | rfl
  · exact (run_load_cell hc).1
  · exact (run_load_cell hc).2.1
  · exact (run_load_cell hc).2.2
theorem wp_load_f1 {ty : TypeId} (ht : cellB ty = true) (x : Operand) (ho : o.op = .load ty x) {ad : Addr} {v : Value} (hx : a.eval x = .pointer (some ad)) (hc : u.cell? ad = some v) (h : K (a.put o.dst v) u) : o.wp Tryz.prog a u K Q := by
  unfold Oper.wp execOp
  simp only [ho, hx, Sem.run_bind, Sem.run_pure, Result.andThen_ok, run_load_f1 ht hc]
  exact h
theorem load_f1 (hk : KeepF w l rows u) (i : Nat) {ty : TypeId} (ht : cellB ty = true) (x : Operand) (ho : o.op = .load ty x) {b off : Nat} {t : TypeId} {cs : List Value} (hi : l[i]? = some (b, t, cs)) (hx : a.eval x = .pointer (some ⟨b, off, none⟩)) (hw : Region.wanted o (yielded ops a.tmps) = true) {v : Value} (hv : cs[off]? = some v)
    (h : wpList Tryz.prog ops Q rest (a.put o.dst v) u) : wpList Tryz.prog ops Q (o :: rest) a u :=
  BigFrame.wpList_want hw fun _ hK => wp_load_f1 ht x ho hx ((hk.get i hi).cell hv) (hK _ _ h)
/-- A cell that lay there. -/
theorem load_there {ty : TypeId} (ht : cellB ty = true) (x : Operand) (ho : o.op = .load ty x) {ad : Addr} {v : Value} (hc : u.cell? ad = some v) (hx : a.eval x = .pointer (some ad)) (hw : Region.wanted o (yielded ops a.tmps) = true)
    (h : wpList Tryz.prog ops Q rest (a.put o.dst v) u) : wpList Tryz.prog ops Q (o :: rest) a u :=
  BigFrame.wpList_want hw fun _ hK => wp_load_f1 ht x ho hx hc (hK _ _ h)
/-- A part of a kept block is loaded. -/
theorem load_fr (hk : KeepF w l rows u) (i : Nat) {ty : TypeId} {d : TypeDesc} (hu : Tryz.prog.underlying ty = some d) (hd : d.isRow = true) {xs : List Value} (hs : (Tryz.prog.info? ty).map (·.size) = some xs.length)
    (x : Operand) (ho : o.op = .load ty x) {b off : Nat} {t : TypeId} {cs : List Value} (hi : l[i]? = some (b, t, cs)) (hx : a.eval x = .pointer (some ⟨b, off, none⟩)) (hw : Region.wanted o (yielded ops a.tmps) = true) (hr : ∀ j v, xs[j]? = some v → cs[off + j]? = some v)
    (h : wpList Tryz.prog ops Q rest (a.put o.dst (.agg xs.toArray)) u) : wpList Tryz.prog ops Q (o :: rest) a u :=
  BigFrame.wpList_want hw fun _ hK => wp_load_mid ty x ho b off hx xs d ((hk.get i hi).range hr) hu hd hs (hK _ _ h)
/-! ### Stores. -/
theorem wp_store_fr (hk : KeepF w l rows u) (i : Nat) {ty : TypeId} {xs : List Value} (hs : (Tryz.prog.info? ty).map (·.size) = some xs.length) (h1 : xs.toArray.all (·.oneCell') = true) (hd : o.dst = none) (x y : Operand) (ho : o.op = .store ty x y)
    {b off : Nat} {t : TypeId} {cs ds : List Value} (hi : l[i]? = some (b, t, cs)) (hx : a.eval x = .pointer (some ⟨b, off, none⟩)) (hy : a.eval y = .agg xs.toArray) (hr : off + xs.length ≤ cs.length) (hds : spl cs off xs = ds)
    (h : ∀ u', KeepF w (l.set i (b, t, ds)) rows u' → (∀ k, k ≠ b → u'.heap[k]? = u.heap[k]?) → K a u') : o.wp Tryz.prog a u K Q := by
  subst hds
  exact wp_store_mid ty x y ho b off _ hx hy (by simpa using (hk.get i hi).there hr) (by simpa using hs) h1 (by rw [hd]; simpa [Act.put] using h _ (hk.setCells i hi off xs) (setCells_else b xs off u))
theorem store_fr (hk : KeepF w l rows u) (i : Nat) {ty : TypeId} {xs : List Value} (hs : (Tryz.prog.info? ty).map (·.size) = some xs.length) (h1 : xs.toArray.all (·.oneCell') = true) (hgd : o.guard = none) (hd : o.dst = none) (x y : Operand) (ho : o.op = .store ty x y)
    {b off : Nat} {t : TypeId} {cs ds : List Value} (hi : l[i]? = some (b, t, cs)) (hx : a.eval x = .pointer (some ⟨b, off, none⟩)) (hy : a.eval y = .agg xs.toArray) (hr : off + xs.length ≤ cs.length) (hds : spl cs off xs = ds)
    (h : ∀ u', KeepF w (l.set i (b, t, ds)) rows u' → wpList Tryz.prog ops Q rest a u') : wpList Tryz.prog ops Q (o :: rest) a u :=
  wpList_plain hgd fun _ hK => wp_store_fr hk i hs h1 hd x y ho hi hx hy hr hds fun u' h' _ => hK _ _ (h u' h')
/-- An int, a text, a slice. -/
def plainV : Value → Bool
  | .int _ _ => true
  | .string _ => true
  | .slice _ _ _ => true
  | _ => false
theorem run_store_f1 {W : World} {ad : Addr} {v v' : Value} {ty : TypeId} (ht : cellB ty = true) (hc : W.cell? ad = some v') (hf : W.frozen? ad = false) (hv : plainV v = true) : (Instr.storeAt ty (.pointer (some ad)) v).run Tryz.prog W = .ok () (W.setCell ad v) := by
  simp only [cellB, Bool.or_eq_true, beq_iff_eq] at ht
  cases v <;> simp only [plainV, Bool.false_eq_true] at hv <;> rcases ht with (rfl | rfl) | rfl <;> simp [go_sem, hc, hf]
theorem wp_store_f1 (hk : KeepF w l rows u) (i : Nat) {ty : TypeId} (ht : cellB ty = true) (hd : o.dst = none) (x y : Operand) (ho : o.op = .store ty x y) {b off : Nat} {t : TypeId} {cs ds : List Value} {v : Value} (hi : l[i]? = some (b, t, cs))
    (hx : a.eval x = .pointer (some ⟨b, off, none⟩)) (hy : a.eval y = v) (hv : plainV v = true) (hr : off < cs.length) (hds : cs.set off v = ds)
    (h : ∀ u', KeepF w (l.set i (b, t, ds)) rows u' → (∀ k, k ≠ b → u'.heap[k]? = u.heap[k]?) → K a u') : o.wp Tryz.prog a u K Q := by
  subst hds
  have e := run_store_f1 (v := v) ht ((hk.get i hi).cell (List.getElem?_eq_getElem hr)) ((hk.get i hi).frozen off) hv
  unfold Oper.wp execOp
  simp only [ho, hx, hy, Sem.run_bind, Sem.run_pure, Result.andThen_ok, e]
  simpa [hd, Act.put, Oper.upon] using h _ (hk.setCell i hi off v) (fun k hk' => heap_setCell_other u ⟨b, off, none⟩ k _ hk')
theorem store_f1 (hk : KeepF w l rows u) (i : Nat) {ty : TypeId} (ht : cellB ty = true) (hgd : o.guard = none) (hd : o.dst = none) (x y : Operand) (ho : o.op = .store ty x y) {b off : Nat} {t : TypeId} {cs ds : List Value} {v : Value} (hi : l[i]? = some (b, t, cs))
    (hx : a.eval x = .pointer (some ⟨b, off, none⟩)) (hy : a.eval y = v) (hv : plainV v = true) (hr : off < cs.length) (hds : cs.set off v = ds)
    (h : ∀ u', KeepF w (l.set i (b, t, ds)) rows u' → wpList Tryz.prog ops Q rest a u') : wpList Tryz.prog ops Q (o :: rest) a u :=
  wpList_plain hgd fun _ hK => wp_store_f1 hk i ht hd x y ho hi hx hy hv hr hds fun u' h' _ => hK _ _ (h u' h')
end
end Go.Proofs.YtofngihdnjgmeaaGreat

namespace Go.Proofs.YtofngihdnjgmeaaGreat
set_option maxRecDepth 100000
open Go.ChangeShapes Go.WideShapes Go.ChangeAt Go.RowKit

set_option maxRecDepth 100000 in
theorem room_any (C : List Int) (hC : C.length = 579) (k : Int) (w : World) :
    Calls Tryz.prog 102 #[.agg (vals C).toArray, .int .i64 k] w fun e w' => e = .returned (.tuple #[.int .i64 (freeN (dnR C) k), .int .i64 (freeN (upR C) k)]) ∧ Below w.heap.size w w' := by
  have HL1 := Lib.hid (show (seg C 3 288).length = 288 from dnR_length hC)
  have HL2 := Lib.hid (show (seg C 291 288).length = 288 from upR_length hC)
  have HC := Lib.hid hC; clear hC
  have HK := Lib.hid (KeepR.start w)
  go_enter Tryz.func102, Tryz.ntmps102
  go_wp2_with (first
    | (with_reducible refine box_new (R := C) HK.out rfl _ rfl rfl ?_; intro bc u hk hb; clear hb; clear HK; have HK := Lib.hid hk; clear hk)
    | (with_reducible refine load_part HK.out 0 288 Tryz.underlying26 rfl r_info rfl _ rfl rfl rfl (by have := HC.out; omega) ?_)
    | (go_at_call 132; (with_reducible refine (free_any (seg C 3 288) HL1.out _ _).mono ?_); rintro e u ⟨rfl, hb⟩; have hk := HK.out.call hb; clear hb; clear HK; have HK := Lib.hid hk; clear hk)
    | (go_at_call 132; (with_reducible refine (free_any (seg C 291 288) HL2.out _ _).mono ?_); rintro e u ⟨rfl, hb⟩; have hk := HK.out.call hb; clear hb; clear HK; have HK := Lib.hid hk; clear hk))
  go_ret2
  exact ⟨rfl, HK.out.bel⟩
end Go.Proofs.YtofngihdnjgmeaaGreat

namespace Go.Proofs.YtofngihdnjgmeaaGreat
set_option maxRecDepth 100000
open Go.ChangeShapes Go.WideShapes Go.ChangeAt Go.RowKit

theorem rights_eq (A : Option Addr) (n c : Nat) (hs : List Ho) (r : Bool) (hr : rightsL hs = r) (w : World) (hd : Row w A n hs) :
    Calls Tryz.prog 94 #[.slice A n c] w fun e w' => e = .returned (.bool r) ∧ Below w.heap.size w w' := by
  subst hr; exact rights_any A n c hs w hd
def sumOf (l : List Ho) (k : Int) : Int := if rightsL l then sumL l k else 0
theorem sumTo_yes {l : List Ho} {k : Int} {m : Nat} (h : holdsB k (l.getD m z5) = true) : sumTo l k (m + 1) = min (sumTo l k m + (l.getD m z5).a) 1099511627776 := by rw [sumTo, if_pos h]
theorem sumTo_no {l : List Ho} {k : Int} {m : Nat} (h : holdsB k (l.getD m z5) = false) : sumTo l k (m + 1) = sumTo l k m := by rw [sumTo, if_neg (by rw [h]; decide)]
theorem holds_a {k : Int} {h : Ho} (h1 : (h.r == k) = false) : holdsB k h = false := by rw [holdsB, h1, Bool.false_and]
theorem holds_b {k : Int} {h : Ho} {r : Bool} (h1 : (h.r == k) = true) (h2 : (h.s == 1) = r) : holdsB k h = r := by rw [holdsB, h1, h2, Bool.true_and]
set_option maxHeartbeats 2000000 in
theorem hsum_any (A : Option Addr) (n c : Nat) (hs : List Ho) (k : Int) (w : World) (hd : Row w A n hs) :
    Calls Tryz.prog 103 #[.slice A n c, .int .i64 k] w fun e w' => e = .returned (.int .i64 (sumOf hs k)) ∧ Below w.heap.size w w' := by
  have HD := Lib.hid hd; have HL := Lib.hid hd.1; have HNB := Lib.hid hd.2.1; clear hd
  have HK := Lib.hid (KeepR.start w)
  cases hrt : rightsL hs with
  | false =>
    rw [show sumOf hs k = 0 by rw [sumOf, hrt]; rfl]
    have HRT := Lib.hid hrt; clear hrt
    go_enter Tryz.func103, Tryz.ntmps103
    go_wp2_with (first
      | (go_at_call 94; (with_reducible refine (rights_eq _ _ _ _ _ HRT.out _ HD.out).mono ?_); rintro e u ⟨rfl, hb⟩; have hk := HK.out.call hb; clear hb; clear HK; have HK := Lib.hid hk; clear hk))
    go_ret
    exact ⟨rfl, HK.out.bel⟩
  | true =>
    rw [show sumOf hs k = sumL hs k by rw [sumOf, hrt]; rfl]
    have HRT := Lib.hid hrt; have HRG := Lib.hid (fun m => sumTo_range (rights_iff.1 hrt).2.1 k m)
    have HRH := Lib.hid (rights_iff.1 hrt).2.1
    clear hrt
    go_enter Tryz.func103, Tryz.ntmps103
    go_wp2_with (first
      | (go_at_call 94; (with_reducible refine (rights_eq _ _ _ _ _ HRT.out _ HD.out).mono ?_); rintro e u ⟨rfl, hb⟩; have hk := HK.out.call hb; clear hb; clear HK; have HK := Lib.hid hk; clear hk))
    go_loopw [5, 13] (fun s i wr => ∃ m : Nat, m ≤ n ∧ i = .int .i64 m ∧ s = .int .i64 (sumTo hs k m) ∧ KeepR w [] wr) (fun _ i _ => n - (intOf i).toNat)
    case atStart => exact ⟨0, by omega, rfl, rfl, HK.out⟩
    case round =>
      obtain ⟨m, hm, rfl, rfl, hk⟩ := hrel
      clear HK
      have HK := Lib.hid hk
      clear hk
      have hS := HRG.out m (by have := HL.out; omega)
      by_cases hlt : m < n
      · have hnb := HNB.out
        have hA := rightH_iff.1 (HRH.out _ (getD_mem (show m < hs.length by have := HL.out; omega)))
        obtain ⟨b, off, rfl, hr⟩ := HD.out.at hlt
        have hrm := hr m hlt
        clear hr
        obtain ⟨h, hh⟩ : ∃ h, hs.getD m z5 = h := ⟨_, rfl⟩
        rw [hh] at hrm
        have HH := Lib.hid hh
        have HR := Lib.hid hrm; have HC := Lib.hid (range_lt hrm)
        clear hrm hh
        have i1 : (0 : Int) ≤ (m : Int) := by omega
        have i2 : (m : Int) < (n : Int) := by omega
        rw [HH.out] at hA
        obtain ⟨_, _, _, _, ha1, ha2, _⟩ := hA
        generalize hSS : sumTo hs k m = s at hS
        have HSS := Lib.hid hSS; clear hSS
        cases h1 : (h.r == k) with
        | false =>
          have HNX := Lib.hid (show sumTo hs k (m + 1) = s by rw [sumTo_no (by rw [HH.out]; exact holds_a h1), HSS.out])
          go_wp2_with (first
            | (with_reducible refine load_hold (range_below HR.out HK.out.bel HC.out) _ rfl rfl rfl ?_)
            | (with_reducible refine alloc_zero HK.out 5 h_zero rfl rfl ?_; intro bh u hn hk hb; clear hn hb; clear HK; have HK := Lib.hid hk; clear hk)
            | (with_reducible refine store_all HK.out 0 5 h_info rfl rfl _ _ rfl rfl rfl rfl (Ho.len _) (zer_length 5) ?_; intro u hk hs; clear hs; simp only [List.set_cons_zero] at hk; clear HK; have HK := Lib.hid hk; clear hk)
            | (with_reducible refine load_val HK.out 0 rfl _ rfl rfl rfl (Ho.g0 _) (Ho.p0 _) ?_)
            | (with_reducible refine load_val HK.out 0 rfl _ rfl rfl rfl (Ho.g1 _) (Ho.p1 _) ?_)
            | (with_reducible refine load_val HK.out 0 rfl _ rfl rfl rfl (Ho.g2 _) (Ho.p2 _) ?_)
            | (with_reducible refine load_val HK.out 0 rfl _ rfl rfl rfl (Ho.g3 _) (Ho.p3 _) ?_)
            | (with_reducible refine load_val HK.out 0 rfl _ rfl rfl rfl (Ho.g4 _) (Ho.p4 _) ?_)
            | (with_reducible refine load_val_want HK.out 0 _ rfl rfl rfl rfl (Ho.g0 _) (Ho.p0 _) ?_)
            | (with_reducible refine load_val_want HK.out 0 _ rfl rfl rfl rfl (Ho.g1 _) (Ho.p1 _) ?_)
            | (with_reducible refine load_val_want HK.out 0 _ rfl rfl rfl rfl (Ho.g2 _) (Ho.p2 _) ?_)
            | (with_reducible refine load_val_want HK.out 0 _ rfl rfl rfl rfl (Ho.g3 _) (Ho.p3 _) ?_)
            | (with_reducible refine load_val_want HK.out 0 _ rfl rfl rfl rfl (Ho.g4 _) (Ho.p4 _) ?_)
            | (with_reducible refine eql_want h1 _ _ _ rfl rfl rfl rfl ?_))
          go_roundw
          case rel => exact ⟨m + 1, by omega, by go_num, by rw [HNX.out], HK.out.tail⟩
          case measure => simp [intOf]; omega
        | true =>
          cases h2 : (h.s == 1) with
          | false =>
            have HNX := Lib.hid (show sumTo hs k (m + 1) = s by rw [sumTo_no (by rw [HH.out]; exact holds_b h1 h2), HSS.out])
            go_wp2_with (first
              | (with_reducible refine load_hold (range_below HR.out HK.out.bel HC.out) _ rfl rfl rfl ?_)
              | (with_reducible refine alloc_zero HK.out 5 h_zero rfl rfl ?_; intro bh u hn hk hb; clear hn hb; clear HK; have HK := Lib.hid hk; clear hk)
              | (with_reducible refine store_all HK.out 0 5 h_info rfl rfl _ _ rfl rfl rfl rfl (Ho.len _) (zer_length 5) ?_; intro u hk hs; clear hs; simp only [List.set_cons_zero] at hk; clear HK; have HK := Lib.hid hk; clear hk)
              | (with_reducible refine load_val HK.out 0 rfl _ rfl rfl rfl (Ho.g0 _) (Ho.p0 _) ?_)
              | (with_reducible refine load_val HK.out 0 rfl _ rfl rfl rfl (Ho.g1 _) (Ho.p1 _) ?_)
              | (with_reducible refine load_val HK.out 0 rfl _ rfl rfl rfl (Ho.g2 _) (Ho.p2 _) ?_)
              | (with_reducible refine load_val HK.out 0 rfl _ rfl rfl rfl (Ho.g3 _) (Ho.p3 _) ?_)
              | (with_reducible refine load_val HK.out 0 rfl _ rfl rfl rfl (Ho.g4 _) (Ho.p4 _) ?_)
              | (with_reducible refine load_val_want HK.out 0 _ rfl rfl rfl rfl (Ho.g0 _) (Ho.p0 _) ?_)
              | (with_reducible refine load_val_want HK.out 0 _ rfl rfl rfl rfl (Ho.g1 _) (Ho.p1 _) ?_)
              | (with_reducible refine load_val_want HK.out 0 _ rfl rfl rfl rfl (Ho.g2 _) (Ho.p2 _) ?_)
              | (with_reducible refine load_val_want HK.out 0 _ rfl rfl rfl rfl (Ho.g3 _) (Ho.p3 _) ?_)
              | (with_reducible refine load_val_want HK.out 0 _ rfl rfl rfl rfl (Ho.g4 _) (Ho.p4 _) ?_)
              | (with_reducible refine eql_want h1 _ _ _ rfl rfl rfl rfl ?_)
              | (with_reducible refine eql_want h2 _ _ _ rfl rfl rfl rfl ?_))
            go_roundw
            case rel => exact ⟨m + 1, by omega, by go_num, by rw [HNX.out], HK.out.tail⟩
            case measure => simp [intOf]; omega
          | true =>
            have HNX := Lib.hid (show sumTo hs k (m + 1) = min (s + h.a) 1099511627776 by rw [sumTo_yes (by rw [HH.out]; exact holds_b h1 h2), HSS.out, HH.out])
            go_wp2_with (first
              | (with_reducible refine load_hold (range_below HR.out HK.out.bel HC.out) _ rfl rfl rfl ?_)
              | (with_reducible refine alloc_zero HK.out 5 h_zero rfl rfl ?_; intro bh u hn hk hb; clear hn hb; clear HK; have HK := Lib.hid hk; clear hk)
              | (with_reducible refine store_all HK.out 0 5 h_info rfl rfl _ _ rfl rfl rfl rfl (Ho.len _) (zer_length 5) ?_; intro u hk hs; clear hs; simp only [List.set_cons_zero] at hk; clear HK; have HK := Lib.hid hk; clear hk)
              | (with_reducible refine load_val HK.out 0 rfl _ rfl rfl rfl (Ho.g0 _) (Ho.p0 _) ?_)
              | (with_reducible refine load_val HK.out 0 rfl _ rfl rfl rfl (Ho.g1 _) (Ho.p1 _) ?_)
              | (with_reducible refine load_val HK.out 0 rfl _ rfl rfl rfl (Ho.g2 _) (Ho.p2 _) ?_)
              | (with_reducible refine load_val HK.out 0 rfl _ rfl rfl rfl (Ho.g3 _) (Ho.p3 _) ?_)
              | (with_reducible refine load_val HK.out 0 rfl _ rfl rfl rfl (Ho.g4 _) (Ho.p4 _) ?_)
              | (with_reducible refine load_val_want HK.out 0 _ rfl rfl rfl rfl (Ho.g0 _) (Ho.p0 _) ?_)
              | (with_reducible refine load_val_want HK.out 0 _ rfl rfl rfl rfl (Ho.g1 _) (Ho.p1 _) ?_)
              | (with_reducible refine load_val_want HK.out 0 _ rfl rfl rfl rfl (Ho.g2 _) (Ho.p2 _) ?_)
              | (with_reducible refine load_val_want HK.out 0 _ rfl rfl rfl rfl (Ho.g3 _) (Ho.p3 _) ?_)
              | (with_reducible refine load_val_want HK.out 0 _ rfl rfl rfl rfl (Ho.g4 _) (Ho.p4 _) ?_)
              | (with_reducible refine eql_want h1 _ _ _ rfl rfl rfl rfl ?_)
              | (with_reducible refine eql_want h2 _ _ _ rfl rfl rfl rfl ?_))
            go_roundw
            case rel => exact ⟨m + 1, by omega, by go_num, by first | (rw [HNX.out]; congr 1; split <;> omega) | rw [HNX.out], HK.out.tail⟩
            case measure => simp [intOf]; omega
      · obtain rfl : m = n := by omega
        have HF := Lib.hid (show sumTo hs k m = sumL hs k by rw [sumL, HL.out])
        go_wp2
        go_ret
        exact ⟨by rw [← HF.out]; rfl, HK.out.bel⟩
end Go.Proofs.YtofngihdnjgmeaaGreat

namespace Go.Proofs.YtofngihdnjgmeaaGreat
set_option maxRecDepth 100000
open Go.ChangeShapes Go.WideShapes Go.ChangeAt Go.RowKit

theorem cbI : cellB 3 = true := by decide
theorem cbS : cellB 9 = true := by decide
theorem cbH : cellB 31 = true := by decide
theorem c_infoF {f : Fd} (h : f.full) : (Tryz.prog.info? 28).map (·.size) = some (vals f.C).length := by rw [vals_length, show f.C.length = 579 from h]; exact c_info
theorem l_infoF (M : Lk) : (Tryz.prog.info? 30).map (·.size) = some (vals M.l).length := by rw [vals_length, Lk.len]; kernel_rfl
theorem f_infoF {f : Fd} (h : f.full) : (Tryz.prog.info? 33).map (·.size) = some f.cells.length := by rw [Fd.len h]; exact f_info
/-- The numbers of what was used of Down are ints. -/
def Fd.ok (f : Fd) : Prop := ∀ z ∈ seg f.C 19 16, -9223372036854775808 ≤ z ∧ z ≤ 9223372036854775807
/-! ### What is loose. -/
theorem sumFrom_isB : ∀ (l : List Int) (acc s : Int), isB acc = true → sumFrom acc l = some s → isB s = true
  | [], acc, s, h, e => by rw [sumFrom] at e; injection e with e; rw [← e]; exact h
  | x :: xs, acc, s, _, e => by
    rw [sumFrom] at e
    split at e
    · rename_i hk
      exact sumFrom_isB xs _ s (okB_iff.1 hk).2.2 e
    · cases e
theorem sumN_isB (l : List Int) : isB (sumN l) = true := by
  cases h : sumFrom 0 l with
  | none => rw [(sumN_none h).1]; exact isB_zero
  | some s => rw [(sumN_some h).1]; exact sumFrom_isB l 0 s isB_zero h
theorem freeN_isB (R : List Int) (k : Int) : isB (freeN R k) = true := by
  unfold freeN
  split
  · exact sumN_isB _
  · exact isB_zero
theorem sumOf_range (hs : List Ho) (k : Int) : 0 ≤ sumOf hs k ∧ sumOf hs k ≤ 1099511627776 := by
  unfold sumOf
  split
  · rename_i h
    exact sumTo_range (rights_iff.1 h).2.1 k hs.length (Nat.le_refl _)
  · omega
def looseD (f : Fd) (hs : List Ho) (k : Int) : Int := if f.k = 1 then freeN (dnR f.C) k - sumOf hs k else 0
def looseU (f : Fd) (k : Int) : Int := if f.k = 1 then freeN (upR f.C) k else 0
theorem loose_1 {f : Fd} (h : f.k = 1) (hs : List Ho) (k : Int) : looseD f hs k = freeN (dnR f.C) k - sumOf hs k ∧ looseU f k = freeN (upR f.C) k := by simp [looseD, looseU, h]
theorem loose_0 {f : Fd} (h : f.k ≠ 1) (hs : List Ho) (k : Int) : looseD f hs k = 0 ∧ looseU f k = 0 := by simp [looseD, looseU, h]
theorem d_infoF {f : Fd} (h : f.full) : (Tryz.prog.info? 26).map (·.size) = some (vals (dnR f.C)).length := by rw [vals_length, dnR_length h]; exact r_info
theorem u_infoF {f : Fd} (h : f.full) : (Tryz.prog.info? 26).map (·.size) = some (vals (upR f.C)).length := by rw [vals_length, upR_length h]; exact r_info
theorem wrap_near {a b : Int} (ha : isB a = true) (hb : 0 ≤ b ∧ b ≤ 1099511627776) : IntKind.i64.wrap (a - b) = a - b := by
  obtain ⟨a1, a2⟩ := isB_iff.1 ha
  simp [IntKind.wrap, IntKind.bits, IntKind.signed]; omega
theorem loose_any (f : Fd) (hf : f.full) (hs : List Ho) (k : Int) (w : World) (hd : Row w f.A f.n hs) :
    Calls Tryz.prog 56 #[.agg f.cells.toArray, .int .i64 k] w fun e w' => e = .returned (.tuple #[.int .i64 (looseD f hs k), .int .i64 (looseU f k)]) ∧ Below w.heap.size w w' := by
  have HK := Lib.hid (KeepF.start (w := w) (rows := [(f.A, f.n, hs)]) (by simpa using hd))
  have HF := Lib.hid hf; clear hf
  have HC := Lib.hid (c_infoF HF.out)
  have HD := Lib.hid (d_infoF HF.out)
  have HU := Lib.hid (u_infoF HF.out)
  by_cases h1 : f.k = 1
  · rw [(loose_1 h1 hs k).1, (loose_1 h1 hs k).2]
    have hwr := wrap_near (freeN_isB (dnR f.C) k) (sumOf_range hs k)
    have hcl := room_any f.C HF.out k
    have hsm : ∀ w (_ : Row w f.A f.n hs), Calls Tryz.prog 103 #[.slice f.A f.n f.c, .int .i64 k] w fun e w' => e = .returned (.int .i64 (sumOf hs k)) ∧ Below w.heap.size w w' := fun w h => hsum_any f.A f.n f.c hs k w h
    generalize freeN (dnR f.C) k = N at hcl hwr ⊢
    generalize freeN (upR f.C) k = U at hcl ⊢
    generalize sumOf hs k = S at hsm hwr ⊢
    have hk1 : f.cells[1]? = some (.int .i64 1) := by rw [Fd.c1, h1]
    go_enter Tryz.func56, Tryz.ntmps56
    go_wp2_with (first
      | (with_reducible refine box_f HK.out rfl _ rfl rfl ?_; intro b u hk; clear HK; have HK := Lib.hid hk; clear hk)
      | (with_reducible refine load_f1 HK.out 0 cbI _ rfl rfl rfl rfl hk1 ?_)
      | (with_reducible refine load_f1 HK.out 0 cbH _ rfl rfl rfl rfl (Fd.cH HF.out) ?_)
      | (with_reducible refine load_fr HK.out 0 Tryz.underlying28 rfl HC.out _ rfl rfl rfl rfl (Fd.cC f) ?_)
      | (go_at_call 102; (with_reducible refine (hcl _).mono ?_); rintro e u ⟨rfl, hb⟩; have hk := HK.out.call hb; clear hb; clear HK; have HK := Lib.hid hk; clear hk)
      | (go_at_call 103; (with_reducible refine (hsm _ (HK.out.rowAt 0 rfl)).mono ?_); rintro e u ⟨rfl, hb⟩; have hk := HK.out.call hb; clear hb; clear HK; have HK := Lib.hid hk; clear hk))
    go_ret2
    exact ⟨rfl, HK.out.bel⟩
  · rw [(loose_0 h1 hs k).1, (loose_0 h1 hs k).2]
    have hk1 := Fd.c1 f
    generalize f.k = K at h1 hk1
    go_enter Tryz.func56, Tryz.ntmps56
    go_wp2_with (first
      | (with_reducible refine box_f HK.out rfl _ rfl rfl ?_; intro b u hk; clear HK; have HK := Lib.hid hk; clear hk)
      | (with_reducible refine load_f1 HK.out 0 cbI _ rfl rfl rfl rfl hk1 ?_))
    go_ret2
    exact ⟨rfl, HK.out.bel⟩

end Go.Proofs.YtofngihdnjgmeaaGreat

namespace Go.Proofs.YtofngihdnjgmeaaGreat
set_option maxRecDepth 100000
open Go.ChangeShapes Go.WideShapes Go.ChangeAt Go.RowKit

/-- Byte m of a text. -/
def byAt (s : ByteArray) (m : Nat) : Int := ((s.data.toList.getD m 0).toNat : Int)
def okC (z : Int) : Bool := decide (33 ≤ z) && decide (z ≤ 126)
def nameB (s : ByteArray) : Bool := (decide (1 ≤ s.size) && decide (s.size ≤ 8)) && (List.range s.size).all fun j => okC (byAt s j)
theorem name_len {s : ByteArray} (h : ¬ (1 ≤ s.size ∧ s.size ≤ 8)) : nameB s = false := by
  rw [nameB, Bool.and_eq_false_iff]
  left
  rw [← Bool.not_eq_true, Bool.and_eq_true, decide_eq_true_eq, decide_eq_true_eq]
  exact h
theorem name_bad {s : ByteArray} {m : Nat} (hm : m < s.size) (h : okC (byAt s m) = false) : nameB s = false := by
  rw [nameB, Bool.and_eq_false_iff]
  right
  rw [← Bool.not_eq_true, List.all_eq_true]
  intro hh
  rw [hh m (by simpa using hm)] at h
  cases h
theorem name_good {s : ByteArray} (h : ∀ j, j < s.size → okC (byAt s j) = true) : nameB s = (decide (1 ≤ s.size) && decide (s.size ≤ 8)) := by
  rw [nameB, show ((List.range s.size).all fun j => okC (byAt s j)) = true from List.all_eq_true.2 fun j hj => h j (by simpa using hj), Bool.and_true]
theorem okC_lo {z : Int} (h : decide (z < 33) = true) : okC z = false := by simp [okC]; simp at h; omega
theorem okC_hi {z : Int} (h : decide (126 < z) = true) : okC z = false := by simp [okC]; simp at h; omega
theorem okC_yes {z : Int} (h1 : decide (z < 33) = false) (h2 : decide (126 < z) = false) : okC z = true := by simp [okC]; simp at h1 h2; omega
theorem by_get {s : ByteArray} {m : Nat} (h : m < s.size) : ((s[m]'h).toNat : Int) = byAt s m := by
  obtain ⟨⟨l⟩⟩ := s
  have hl : m < l.length := h
  have e : (ByteArray.mk ⟨l⟩)[m]'h = l.getD m 0 := by
    simp only [List.getD, List.getElem?_eq_getElem hl, Option.getD_some]
    rfl
  rw [e]; rfl
theorem index_by {ops : Array Oper} {rest : List Oper} {o : Oper} {a : Act} {u : World} {Q : Exit → Act → World → Prop} {s : ByteArray} {m : Nat} {z : Int} (hm : m < s.size) (hz : byAt s m = z) (x y : Operand) (ho : o.op = .index 9 x y) (hx : a.eval x = .string s) (hy : a.eval y = .int .i64 (m : Int)) (hw : Region.wanted o (yielded ops a.tmps) = true)
    (h : wpList Tryz.prog ops Q rest (a.put o.dst (.int .u8 z)) u) : wpList Tryz.prog ops Q (o :: rest) a u :=
  BigFrame.wpList_want hw fun K hK => by
    have e : (Instr.index 9 (.string s) (.int .i64 (m : Int))).run Tryz.prog u = .ok (.int .u8 z) u := by
      rw [run_index_string u 9 s .i64 m Tryz.underlying9, dif_pos (by omega), ← hz]
      simp only [Int.toNat_natCast]
      rw [by_get hm]
    unfold Oper.wp execOp
    simp only [ho, hx, hy, Sem.run_bind, Sem.run_pure, Result.andThen_ok, e]
    exact hK _ _ h
theorem fname_any (s : ByteArray) (hs : s.size ≤ 1000) (w : World) :
    Calls Tryz.prog 52 #[.string s] w fun e w' => e = .returned (.bool (nameB s)) ∧ Below w.heap.size w w' := by
  by_cases h0 : 1 ≤ s.size ∧ s.size ≤ 8
  · obtain ⟨h1, h8⟩ := h0
    have d1 : decide ((s.size : Int) < 1) = false := by rw [decide_eq_false_iff_not]; omega
    have d8 : decide ((8 : Int) < (s.size : Int)) = false := by rw [decide_eq_false_iff_not]; omega
    go_enter Tryz.func52, Tryz.ntmps52
    go_wp2
    go_loopw [14] (fun i wr => ∃ m : Nat, m ≤ s.size ∧ i = .int .i64 m ∧ (∀ j, j < m → okC (byAt s j) = true) ∧ Below w.heap.size w wr) (fun i _ => s.size - (intOf i).toNat)
    case atStart => exact ⟨0, by omega, rfl, by omega, Below.refl _ _⟩
    case round =>
      obtain ⟨m, hm, rfl, hu, hb⟩ := hrel
      have HU := Lib.hid hu; have HB := Lib.hid hb
      clear hu hb
      by_cases hlt : m < s.size
      · have HM := Lib.hid hlt
        obtain ⟨z, hz⟩ : ∃ z, byAt s m = z := ⟨_, rfl⟩
        have HZ := Lib.hid hz
        clear hz
        have i2 : (m : Int) < (s.size : Int) := by omega
        cases h1 : decide (z < 33) with
        | true =>
          have HF := Lib.hid (show nameB s = false from name_bad HM.out (by rw [HZ.out]; exact okC_lo h1))
          go_wp2_with (first
            | (with_reducible refine index_by HM.out HZ.out _ _ rfl rfl rfl rfl ?_))
          go_ret
          exact ⟨by rw [HF.out]; rfl, HB.out⟩
        | false =>
          cases h2 : decide (126 < z) with
          | true =>
            have HF := Lib.hid (show nameB s = false from name_bad HM.out (by rw [HZ.out]; exact okC_hi h2))
            go_wp2_with (first
              | (with_reducible refine index_by HM.out HZ.out _ _ rfl rfl rfl rfl ?_))
            go_ret
            exact ⟨by rw [HF.out]; rfl, HB.out⟩
          | false =>
            have HG := Lib.hid (show okC z = true from okC_yes h1 h2)
            go_wp2_with (first
              | (with_reducible refine index_by HM.out HZ.out _ _ rfl rfl rfl rfl ?_))
            go_roundw
            case rel => exact ⟨m + 1, by omega, by go_num, fun j hj => by
              rcases Nat.lt_or_ge j m with h3 | h3
              · exact HU.out j h3
              · rw [show j = m by omega, HZ.out]; exact HG.out, HB.out⟩
            case measure => simp [intOf]; omega
      · obtain rfl : m = s.size := by omega
        have HF := Lib.hid (name_good HU.out)
        go_wp2
        go_ret
        exact ⟨by rw [HF.out]; simp [h1, h8], HB.out⟩
  · rw [name_len h0]
    by_cases h1 : 1 ≤ s.size
    · have d1 : decide ((s.size : Int) < 1) = false := by rw [decide_eq_false_iff_not]; omega
      have d8 : decide ((8 : Int) < (s.size : Int)) = true := by rw [decide_eq_true_eq]; omega
      go_enter Tryz.func52, Tryz.ntmps52
      go_wp2
      go_ret
      exact ⟨rfl, Below.refl _ _⟩
    · have d1 : decide ((s.size : Int) < 1) = true := by rw [decide_eq_true_eq]; omega
      go_enter Tryz.func52, Tryz.ntmps52
      go_wp2
      go_ret
      exact ⟨rfl, Below.refl _ _⟩
end Go.Proofs.YtofngihdnjgmeaaGreat
