/- Contracts of rights.Right and the document's Right. -/
import Derived.Test.YtpbjencigepnfaaVecDo
import Derived.Test.YtpbjencigepnfaaRefVec
import Derived.Test.YtpbjencigepnfaaVecs2
namespace Go.Proofs.Ytpbjencigepnfaa
open Go.ChangeShapes Go.WideShapes Go.ChangeAt Go.RowKit

/-- May rights be? -/
def rightsB (R : List Int) : Bool := ((List.range 18).all fun j => rightB (seg R (j * 16) 16)) && ((List.range 16).all fun j => R.getD (32 + j * 16 + j) 0 == 0)
theorem rightsB_iff {R : List Int} : rightsB R = true ↔ (∀ j, j < 18 → rightB (seg R (j * 16) 16) = true) ∧ ∀ j, j < 16 → R.getD (32 + j * 16 + j) 0 = 0 := by
  simp [rightsB]
theorem rightsB_vec {R : List Int} {j : Nat} (hj : j < 18) (h : rightB (seg R (j * 16) 16) = false) : false = rightsB R := by
  cases hr : rightsB R with
  | false => rfl
  | true => rw [(rightsB_iff.1 hr).1 j hj] at h; cases h
theorem rightsB_own {R : List Int} {j : Nat} (hj : j < 16) (h : R.getD (32 + j * 16 + j) 0 ≠ 0) : false = rightsB R := by
  cases hr : rightsB R with
  | false => rfl
  | true => exact absurd ((rightsB_iff.1 hr).2 j hj) h

theorem right_r (R : List Int) (hR : R.length = 288) (w : World) :
    Calls Try.prog 15 #[.agg (vals R).toArray] w fun e w' => e = .returned (.bool (rightsB R)) ∧ Below w.heap.size w w' := by
  have HR := Lib.hid hR; clear hR
  have HK := Lib.hid (KeepR.start w)
  have HV := Lib.hid True.intro
  go_enter Try.func15, Try.ntmps15
  go_wp2_with (first
    | (with_reducible refine box_new HK.out rfl _ rfl rfl ?_; intro b u hk hb; clear hb; clear HK; have HK := Lib.hid hk; clear hk)
    | (with_reducible refine load_all HK.out 0 288 Try.underlying26 rfl r_info rfl _ rfl rfl rfl HR.out ?_)
    | (go_at_call 34; (with_reducible refine (vectors_any R HR.out _).mono ?_); rintro e u ⟨b2, c2, rfl, hv, hb⟩; have hk := HK.out.call hb; clear hb HV; have HV := Lib.hid (row_at hv HR.out); clear hv; clear HK; have HK := Lib.hid hk; clear hk))
  go_loopw [10] (fun i wr => ∃ k : Nat, k ≤ 18 ∧ i = .int .i64 k ∧ KeepR w [(b, 26, R)] wr ∧ RowAt wr b2 R ∧ ∀ j, j < k → rightB (seg R (j * 16) 16) = true) (fun i _ => 18 - (intOf i).toNat)
  case atStart => exact ⟨0, by omega, rfl, HK.out, HV.out, fun j hj => by omega⟩
  case round =>
    obtain ⟨k, hk0, rfl, hk, hv, hD⟩ := hrel
    clear HK HV
    have HK := Lib.hid hk; have HV := Lib.hid hv; have HD := Lib.hid hD
    clear hk hv hD
    by_cases hlt : k < 18
    · have HL := Lib.hid (seg_length (R := R) (o := k * 16) (n := 16) (by have := HR.out; omega))
      have i1 : (0 : Int) ≤ (k : Int) := by omega
      have i2 : (k : Int) < 18 := by omega
      have hne := Lib.hid True.intro
      cases hrt : rightB (seg R (k * 16) 16) with
      | false =>
        have hrc := right_any (seg R (k * 16) 16) HL.out
        rw [hrt] at hrc
        have HF := Lib.hid (rightsB_vec hlt hrt)
        clear hrt
        go_wp2_with (first
          | (with_reducible refine alloc_zero HK.out 16 v_zero rfl rfl ?_; intro b4 u hn hk hb; clear hne; have hne := Lib.hid (Nat.ne_of_lt (hn ▸ HV.out.lt)); have hv := HV.out.call hb; clear hb hn HV; have HV := Lib.hid hv; clear hv; clear HK; have HK := Lib.hid hk; clear hk)
          | (with_reducible refine store_all HK.out 0 16 vec_info rfl rfl _ _ rfl rfl rfl rfl HL.out (zer_length 16) ?_; intro u hk hs; have hv := HV.out.other hs hne.out; clear hs HV; have HV := Lib.hid hv; clear hv; simp only [List.set_cons_zero] at hk; clear HK; have HK := Lib.hid hk; clear hk)
          | (with_reducible refine load_row HV.out rfl _ rfl rfl (by have := HR.out; omega) ?_)
          | (with_reducible refine load_all HK.out 0 16 Try.underlying23 rfl vec_info rfl _ rfl rfl rfl HL.out ?_)
          | (go_at_call 35; (with_reducible refine (hrc _).mono ?_); rintro e u ⟨rfl, hb⟩; have hk := HK.out.call hb; have hv := HV.out.call hb; clear hb HV; have HV := Lib.hid hv; clear hv; clear HK; have HK := Lib.hid hk; clear hk))
        go_ret
        exact ⟨congrArg (fun b => Ending.returned (.bool b)) HF.out, HK.out.bel⟩
      | true =>
        have hrc := right_any (seg R (k * 16) 16) HL.out
        rw [hrt] at hrc
        have HT := Lib.hid hrt
        clear hrt
        go_wp2_with (first
          | (with_reducible refine alloc_zero HK.out 16 v_zero rfl rfl ?_; intro b4 u hn hk hb; clear hne; have hne := Lib.hid (Nat.ne_of_lt (hn ▸ HV.out.lt)); have hv := HV.out.call hb; clear hb hn HV; have HV := Lib.hid hv; clear hv; clear HK; have HK := Lib.hid hk; clear hk)
          | (with_reducible refine store_all HK.out 0 16 vec_info rfl rfl _ _ rfl rfl rfl rfl HL.out (zer_length 16) ?_; intro u hk hs; have hv := HV.out.other hs hne.out; clear hs HV; have HV := Lib.hid hv; clear hv; simp only [List.set_cons_zero] at hk; clear HK; have HK := Lib.hid hk; clear hk)
          | (with_reducible refine load_row HV.out rfl _ rfl rfl (by have := HR.out; omega) ?_)
          | (with_reducible refine load_all HK.out 0 16 Try.underlying23 rfl vec_info rfl _ rfl rfl rfl HL.out ?_)
          | (go_at_call 35; (with_reducible refine (hrc _).mono ?_); rintro e u ⟨rfl, hb⟩; have hk := HK.out.call hb; have hv := HV.out.call hb; clear hb HV; have HV := Lib.hid hv; clear hv; clear HK; have HK := Lib.hid hk; clear hk))
        go_roundw
        case rel => exact ⟨k + 1, by omega, by go_num, HK.out.tail, HV.out, fun j hj => by
          by_cases hjk : j = k
          · rw [hjk]; exact HT.out
          · exact HD.out j (by omega)⟩
        case measure => simp [intOf]; omega
    · obtain rfl : k = 18 := by omega
      simp only [show ((18 : Nat) : Int) = 18 from rfl]
      have HL := Lib.hid (seg_length (R := R) (o := 32) (n := 256) (by have := HR.out; omega))
      go_wp2_with (first
        | (with_reducible refine load_part HK.out 0 256 Try.underlying24 rfl m_info rfl _ rfl rfl rfl (by have := HR.out; omega) ?_))
      go_loopw [20] (fun i wr => ∃ m : Nat, m ≤ 16 ∧ i = .int .i64 m ∧ KeepR w [(b, 26, R)] wr ∧ ∀ j, j < m → R.getD (32 + j * 16 + j) 0 = 0) (fun i _ => 16 - (intOf i).toNat)
      case atStart => exact ⟨0, by omega, rfl, HK.out, fun j hj => by omega⟩
      case round =>
        obtain ⟨m, hm, rfl, hk, hE⟩ := hrel
        clear HK HV
        have HK := Lib.hid hk; have HE := Lib.hid hE
        clear hk hE
        by_cases hlt : m < 16
        · have hix : ∀ W : World, (Instr.index 24 (.agg (vals (seg R 32 256)).toArray) (.int .i64 (m : Int))).run Try.prog W = .ok (.agg (vals (seg (seg R 32 256) (m * 16) 16)).toArray) W := fun W => index_row HL.out hlt W
          rw [show seg (seg R 32 256) (m * 16) 16 = seg R (32 + m * 16) 16 from seg_seg (by omega)] at hix
          have hrl : (seg R (32 + m * 16) 16).length = 16 := seg_length (by have := HR.out; omega)
          have hrg : (seg R (32 + m * 16) 16).getD m 0 = R.getD (32 + m * 16 + m) 0 := seg_get hlt
          generalize hx : R.getD (32 + m * 16 + m) 0 = x at hrg
          have HL2 := Lib.hid hrl; have HG := Lib.hid hrg; have HX := Lib.hid hx
          clear hrl hrg hx
          have j1 : (0 : Int) ≤ (m : Int) := by omega
          have j2 : (m : Int) < 16 := by omega
          by_cases hz : x = 0
          · subst hz
            go_wp2_with (first
              | (with_reducible refine alloc_zero HK.out 16 v_zero rfl rfl ?_; intro b u hn hk hb; clear hn; clear hb; clear HK; have HK := Lib.hid hk; clear hk)
              | (with_reducible refine store_all HK.out 0 16 vec_info rfl rfl _ _ rfl rfl rfl rfl HL2.out (zer_length 16) ?_; intro u hk hs; clear hs; simp only [List.set_cons_zero] at hk; have hc1 := (hk.get 0 rfl).cell (k := m) (by rw [HL2.out]; omega); rw [HG.out] at hc1; clear HK; have HK := Lib.hid hk; clear hk))
            go_roundw
            case rel => exact ⟨m + 1, by omega, by go_num, HK.out.tail, fun j hj => by
              by_cases hjk : j = m
              · rw [hjk]; exact HX.out
              · exact HE.out j (by omega)⟩
            case measure => simp [intOf]; omega
          · have HF := Lib.hid (rightsB_own (R := R) hlt (by rw [HX.out]; exact hz))
            go_wp2_with (first
              | (with_reducible refine alloc_zero HK.out 16 v_zero rfl rfl ?_; intro b u hn hk hb; clear hn; clear hb; clear HK; have HK := Lib.hid hk; clear hk)
              | (with_reducible refine store_all HK.out 0 16 vec_info rfl rfl _ _ rfl rfl rfl rfl HL2.out (zer_length 16) ?_; intro u hk hs; clear hs; simp only [List.set_cons_zero] at hk; have hc1 := (hk.get 0 rfl).cell (k := m) (by rw [HL2.out]; omega); rw [HG.out] at hc1; clear HK; have HK := Lib.hid hk; clear hk))
            go_ret
            exact ⟨congrArg (fun b => Ending.returned (.bool b)) HF.out, HK.out.bel⟩
        · have ht : true = rightsB R := (rightsB_iff.2 ⟨fun j hj => HD.out j (by omega), fun j hj => HE.out j (by omega)⟩).symm
          have HT := Lib.hid ht; clear ht
          go_wp2
          go_ret
          exact ⟨congrArg (fun b => Ending.returned (.bool b)) HT.out, HK.out.bel⟩
end Go.Proofs.Ytpbjencigepnfaa
