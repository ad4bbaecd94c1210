/- Contracts of rights.Right and the document's Right. A contract of the document's Right. Contracts of rights.covered, rights.Use and rights.Move. Contracts of the document's Use and Move. Contracts of rights.Over and of rights.Join's own closure. Contracts of rights.Join and its closure. A contract of rights.Join. Rights, built of two vectors. Contracts of the document's Join and Over. -/
import Derived.Test.YtofngihdnjgmeaaLBase2
import Derived.Test.YtofngihdnjgmeaaLBase3
import Derived.Test.YtofngihdnjgmeaaLBase0
import Derived.WalkMore
namespace Go.Proofs.Ytofngihdnjgmeaa
set_option maxRecDepth 100000
open Go.ChangeShapes Go.WideShapes Go.ChangeAt Go.RowKit

/-- May rights be? -/
def rightsB (R : List Int) : Bool := ((List.range 18).all fun j => rightB (seg R (j * 16) 16)) && ((List.range 16).all fun j => R.getD (32 + j * 16 + j) 0 == 0)
theorem rightsB_iff {R : List Int} : rightsB R = true ↔ (∀ j, j < 18 → rightB (seg R (j * 16) 16) = true) ∧ ∀ j, j < 16 → R.getD (32 + j * 16 + j) 0 = 0 := by
  simp [rightsB]
theorem rightsB_vec {R : List Int} {j : Nat} (hj : j < 18) (h : rightB (seg R (j * 16) 16) = false) : false = rightsB R := by
  cases hr : rightsB R with
  | false => rfl
  | true => rw [(rightsB_iff.1 hr).1 j hj] at h; cases h
theorem rightsB_own {R : List Int} {j : Nat} (hj : j < 16) (h : R.getD (32 + j * 16 + j) 0 ≠ 0) : false = rightsB R := by
  cases hr : rightsB R with
  | false => rfl
  | true => exact absurd ((rightsB_iff.1 hr).2 j hj) h

theorem right_r (R : List Int) (hR : R.length = 288) (w : World) :
    Calls Try.prog 73 #[.agg (vals R).toArray] w fun e w' => e = .returned (.bool (rightsB R)) ∧ Below w.heap.size w w' := by
  have HR := Lib.hid hR; clear hR
  have HK := Lib.hid (KeepR.start w)
  have HV := Lib.hid True.intro
  go_enter Try.func73, Try.ntmps73
  go_wp2_with (first
    | (with_reducible refine box_new HK.out rfl _ rfl rfl ?_; intro b u hk hb; clear hb; clear HK; have HK := Lib.hid hk; clear hk)
    | (with_reducible refine load_all HK.out 0 288 Try.underlying26 rfl r_info rfl _ rfl rfl rfl HR.out ?_)
    | (go_at_call 92; (with_reducible refine (vectors_any R HR.out _).mono ?_); rintro e u ⟨b2, c2, rfl, hv, hb⟩; have hk := HK.out.call hb; clear hb HV; have HV := Lib.hid (row_at hv HR.out); clear hv; clear HK; have HK := Lib.hid hk; clear hk))
  go_loopw [10] (fun i wr => ∃ k : Nat, k ≤ 18 ∧ i = .int .i64 k ∧ KeepR w [(b, 26, R)] wr ∧ RowAt wr b2 R ∧ ∀ j, j < k → rightB (seg R (j * 16) 16) = true) (fun i _ => 18 - (intOf i).toNat)
  case atStart => exact ⟨0, by omega, rfl, HK.out, HV.out, fun j hj => by omega⟩
  case round =>
    obtain ⟨k, hk0, rfl, hk, hv, hD⟩ := hrel
    clear HK HV
    have HK := Lib.hid hk; have HV := Lib.hid hv; have HD := Lib.hid hD
    clear hk hv hD
    by_cases hlt : k < 18
    · have HL := Lib.hid (seg_length (R := R) (o := k * 16) (n := 16) (by have := HR.out; omega))
      have i1 : (0 : Int) ≤ (k : Int) := by omega
      have i2 : (k : Int) < 18 := by omega
      have hne := Lib.hid True.intro
      cases hrt : rightB (seg R (k * 16) 16) with
      | false =>
        have hrc := right_any (seg R (k * 16) 16) HL.out
        rw [hrt] at hrc
        have HF := Lib.hid (rightsB_vec hlt hrt)
        clear hrt
        go_wp2_with (first
          | (with_reducible refine alloc_zero HK.out 16 v_zero rfl rfl ?_; intro b4 u hn hk hb; clear hne; have hne := Lib.hid (Nat.ne_of_lt (hn ▸ HV.out.lt)); have hv := HV.out.call hb; clear hb hn HV; have HV := Lib.hid hv; clear hv; clear HK; have HK := Lib.hid hk; clear hk)
          | (with_reducible refine store_all HK.out 0 16 vec_info rfl rfl _ _ rfl rfl rfl rfl HL.out (zer_length 16) ?_; intro u hk hs; have hv := HV.out.other hs hne.out; clear hs HV; have HV := Lib.hid hv; clear hv; simp only [List.set_cons_zero] at hk; clear HK; have HK := Lib.hid hk; clear hk)
          | (with_reducible refine load_row HV.out rfl _ rfl rfl (by have := HR.out; omega) ?_)
          | (with_reducible refine load_all HK.out 0 16 Try.underlying23 rfl vec_info rfl _ rfl rfl rfl HL.out ?_)
          | (go_at_call 93; (with_reducible refine (hrc _).mono ?_); rintro e u ⟨rfl, hb⟩; have hk := HK.out.call hb; have hv := HV.out.call hb; clear hb HV; have HV := Lib.hid hv; clear hv; clear HK; have HK := Lib.hid hk; clear hk))
        go_ret
        exact ⟨congrArg (fun b => Ending.returned (.bool b)) HF.out, HK.out.bel⟩
      | true =>
        have hrc := right_any (seg R (k * 16) 16) HL.out
        rw [hrt] at hrc
        have HT := Lib.hid hrt
        clear hrt
        go_wp2_with (first
          | (with_reducible refine alloc_zero HK.out 16 v_zero rfl rfl ?_; intro b4 u hn hk hb; clear hne; have hne := Lib.hid (Nat.ne_of_lt (hn ▸ HV.out.lt)); have hv := HV.out.call hb; clear hb hn HV; have HV := Lib.hid hv; clear hv; clear HK; have HK := Lib.hid hk; clear hk)
          | (with_reducible refine store_all HK.out 0 16 vec_info rfl rfl _ _ rfl rfl rfl rfl HL.out (zer_length 16) ?_; intro u hk hs; have hv := HV.out.other hs hne.out; clear hs HV; have HV := Lib.hid hv; clear hv; simp only [List.set_cons_zero] at hk; clear HK; have HK := Lib.hid hk; clear hk)
          | (with_reducible refine load_row HV.out rfl _ rfl rfl (by have := HR.out; omega) ?_)
          | (with_reducible refine load_all HK.out 0 16 Try.underlying23 rfl vec_info rfl _ rfl rfl rfl HL.out ?_)
          | (go_at_call 93; (with_reducible refine (hrc _).mono ?_); rintro e u ⟨rfl, hb⟩; have hk := HK.out.call hb; have hv := HV.out.call hb; clear hb HV; have HV := Lib.hid hv; clear hv; clear HK; have HK := Lib.hid hk; clear hk))
        go_roundw
        case rel => exact ⟨k + 1, by omega, by go_num, HK.out.tail, HV.out, fun j hj => by
          by_cases hjk : j = k
          · rw [hjk]; exact HT.out
          · exact HD.out j (by omega)⟩
        case measure => simp [intOf]; omega
    · obtain rfl : k = 18 := by omega
      simp only [show ((18 : Nat) : Int) = 18 from rfl]
      have HL := Lib.hid (seg_length (R := R) (o := 32) (n := 256) (by have := HR.out; omega))
      go_wp2_with (first
        | (with_reducible refine load_part HK.out 0 256 Try.underlying24 rfl m_info rfl _ rfl rfl rfl (by have := HR.out; omega) ?_))
      go_loopw [20] (fun i wr => ∃ m : Nat, m ≤ 16 ∧ i = .int .i64 m ∧ KeepR w [(b, 26, R)] wr ∧ ∀ j, j < m → R.getD (32 + j * 16 + j) 0 = 0) (fun i _ => 16 - (intOf i).toNat)
      case atStart => exact ⟨0, by omega, rfl, HK.out, fun j hj => by omega⟩
      case round =>
        obtain ⟨m, hm, rfl, hk, hE⟩ := hrel
        clear HK HV
        have HK := Lib.hid hk; have HE := Lib.hid hE
        clear hk hE
        by_cases hlt : m < 16
        · have hix : ∀ W : World, (Instr.index 24 (.agg (vals (seg R 32 256)).toArray) (.int .i64 (m : Int))).run Try.prog W = .ok (.agg (vals (seg (seg R 32 256) (m * 16) 16)).toArray) W := fun W => index_row HL.out hlt W
          rw [show seg (seg R 32 256) (m * 16) 16 = seg R (32 + m * 16) 16 from seg_seg (by omega)] at hix
          have hrl : (seg R (32 + m * 16) 16).length = 16 := seg_length (by have := HR.out; omega)
          have hrg : (seg R (32 + m * 16) 16).getD m 0 = R.getD (32 + m * 16 + m) 0 := seg_get hlt
          generalize hx : R.getD (32 + m * 16 + m) 0 = x at hrg
          have HL2 := Lib.hid hrl; have HG := Lib.hid hrg; have HX := Lib.hid hx
          clear hrl hrg hx
          have j1 : (0 : Int) ≤ (m : Int) := by omega
          have j2 : (m : Int) < 16 := by omega
          by_cases hz : x = 0
          · subst hz
            go_wp2_with (first
              | (with_reducible refine alloc_zero HK.out 16 v_zero rfl rfl ?_; intro b u hn hk hb; clear hn; clear hb; clear HK; have HK := Lib.hid hk; clear hk)
              | (with_reducible refine store_all HK.out 0 16 vec_info rfl rfl _ _ rfl rfl rfl rfl HL2.out (zer_length 16) ?_; intro u hk hs; clear hs; simp only [List.set_cons_zero] at hk; have hc1 := (hk.get 0 rfl).cell (k := m) (by rw [HL2.out]; omega); rw [HG.out] at hc1; clear HK; have HK := Lib.hid hk; clear hk))
            go_roundw
            case rel => exact ⟨m + 1, by omega, by go_num, HK.out.tail, fun j hj => by
              by_cases hjk : j = m
              · rw [hjk]; exact HX.out
              · exact HE.out j (by omega)⟩
            case measure => simp [intOf]; omega
          · have HF := Lib.hid (rightsB_own (R := R) hlt (by rw [HX.out]; exact hz))
            go_wp2_with (first
              | (with_reducible refine alloc_zero HK.out 16 v_zero rfl rfl ?_; intro b u hn hk hb; clear hn; clear hb; clear HK; have HK := Lib.hid hk; clear hk)
              | (with_reducible refine store_all HK.out 0 16 vec_info rfl rfl _ _ rfl rfl rfl rfl HL2.out (zer_length 16) ?_; intro u hk hs; clear hs; simp only [List.set_cons_zero] at hk; have hc1 := (hk.get 0 rfl).cell (k := m) (by rw [HL2.out]; omega); rw [HG.out] at hc1; clear HK; have HK := Lib.hid hk; clear hk))
            go_ret
            exact ⟨congrArg (fun b => Ending.returned (.bool b)) HF.out, HK.out.bel⟩
        · have ht : true = rightsB R := (rightsB_iff.2 ⟨fun j hj => HD.out j (by omega), fun j hj => HE.out j (by omega)⟩).symm
          have HT := Lib.hid ht; clear ht
          go_wp2
          go_ret
          exact ⟨congrArg (fun b => Ending.returned (.bool b)) HT.out, HK.out.bel⟩
end Go.Proofs.Ytofngihdnjgmeaa

namespace Go.Proofs.Ytofngihdnjgmeaa
set_option maxRecDepth 100000
open Go.ChangeShapes Go.WideShapes Go.ChangeAt Go.RowKit

def okR (R : List Int) (k : Nat) : Bool := (rightB (seg R 0 16) && rightB (seg R 16 16)) && ((List.range k).all fun j => rightB (seg R (32 + j * 16) 16) && (R.getD (32 + j * 16 + j) 0 == 0))
theorem okR_succ (R : List Int) (k : Nat) : okR R (k + 1) = (okR R k && (rightB (seg R (32 + k * 16) 16) && (R.getD (32 + k * 16 + k) 0 == 0))) := by
  simp only [okR, List.range_succ, List.all_append, List.all_cons, List.all_nil, Bool.and_true, Bool.and_assoc]
theorem okR_all (R : List Int) : okR R 16 = rightsB R := by
  rw [Bool.eq_iff_iff, rightsB_iff]
  simp only [okR, Bool.and_eq_true, List.all_eq_true, List.mem_range, beq_iff_eq]
  constructor
  · rintro ⟨⟨h1, h2⟩, h3⟩
    refine ⟨fun j hj => ?_, fun j hj => (h3 j hj).2⟩
    match j, hj with
    | 0, _ => simpa using h1
    | 1, _ => simpa using h2
    | j + 2, hj =>
      have := (h3 j (by omega)).1
      rwa [show 32 + j * 16 = (j + 2) * 16 by omega] at this
  · rintro ⟨h1, h2⟩
    refine ⟨⟨by simpa using h1 0 (by omega), by simpa using h1 1 (by omega)⟩, fun j hj => ⟨?_, h2 j hj⟩⟩
    have := h1 (j + 2) (by omega)
    rwa [show (j + 2) * 16 = 32 + j * 16 by omega] at this

theorem rright_r (R : List Int) (hR : R.length = 288) (w : World) :
    Calls Try.prog 43 #[.agg (vals R).toArray] w fun e w' => e = .returned (.bool (rightsB R)) ∧ Below w.heap.size w w' := by
  have HS0 := Lib.hid (seg_length (R := R) (o := 0) (n := 16) (by omega))
  have HS1 := Lib.hid (seg_length (R := R) (o := 16) (n := 16) (by omega))
  have HR := Lib.hid hR; clear hR
  have HK := Lib.hid (KeepR.start w)
  have HOK := Lib.hid (okR_all R)
  have h00 : okR R 0 = (rightB (seg R 0 16) && rightB (seg R 16 16)) := by simp [okR]
  have c0 := rright_any (seg R 0 16) HS0.out
  have c1 := rright_any (seg R 16 16) HS1.out
  cases h0 : rightB (seg R 0 16) with
  | false =>
    rw [h0] at c0 h00
    have H00 := Lib.hid h00; clear h00 h0 c1
    rw [Bool.false_and] at H00
    go_enter Try.func43, Try.ntmps43
    go_wp2_with (first
      | (with_reducible refine box_new HK.out rfl _ rfl rfl ?_; intro b u hk hb; clear hb; clear HK; have HK := Lib.hid hk; clear hk)
      | (with_reducible refine load_part HK.out 0 16 Try.underlying23 rfl vec_info rfl _ rfl rfl rfl (by have := HR.out; omega) ?_)
      | (go_at_call 63; (with_reducible refine (c0 _).mono ?_); rintro e u ⟨rfl, hb⟩; have hk := HK.out.call hb; clear hb; clear HK; have HK := Lib.hid hk; clear hk))
    go_loopw [3, 4] (fun ok i wr => ∃ k : Nat, k ≤ 16 ∧ i = .int .i64 k ∧ ok = .bool (okR R k) ∧ KeepR w [(b, 26, R)] wr) (fun _ i _ => 16 - (intOf i).toNat)
    case atStart => exact ⟨0, by omega, rfl, by rw [H00.out], HK.out⟩
    case round =>
      obtain ⟨k, hk0, rfl, rfl, hk⟩ := hrel
      clear HK
      have HK := Lib.hid hk
      clear hk
      by_cases hlt : k < 16
      · have HO := Lib.hid (okR_succ R k)
        have hc1 := (HK.out.get 0 rfl).cell (k := 32 + k * 16 + k) (by have := HR.out; omega)
        have HL := Lib.hid (seg_length (R := R) (o := 32 + k * 16) (n := 16) (by have := HR.out; omega))
        have hrc := rright_any (seg R (32 + k * 16) 16) HL.out
        have i1 : (0 : Int) ≤ (k : Int) := by omega
        have i2 : (k : Int) < 16 := by omega
        generalize hx : R.getD (32 + k * 16 + k) 0 = x at hc1
        have HX := Lib.hid hx; clear hx
        cases hok : okR R k with
        | false =>
          have HQ := Lib.hid (show okR R (k + 1) = false by rw [HO.out, hok]; rfl)
          clear hok hrc
          go_wp2
          go_roundw
          case rel => exact ⟨k + 1, by omega, by go_num, by rw [HQ.out], HK.out⟩
          case measure => simp [intOf]; omega
        | true =>
          cases hrt : rightB (seg R (32 + k * 16) 16) with
          | false =>
            have HQ := Lib.hid (show okR R (k + 1) = false by rw [HO.out, hok, hrt]; rfl)
            rw [hrt] at hrc
            clear hok hrt
            go_wp2_with (first
              | (refine load_want HK.out 0 16 Try.underlying23 rfl vec_info _ rfl rfl rfl rfl (by have := HR.out; omega) ?_)
              | (go_at_call 63; (with_reducible refine (hrc _).mono ?_); rintro e u ⟨rfl, hb⟩; have hk := HK.out.call hb; clear hb hc1; have hc1 := (hk.get 0 rfl).cell (k := 32 + k * 16 + k) (by have := HR.out; omega); rw [HX.out] at hc1; clear HK; have HK := Lib.hid hk; clear hk))
            go_roundw
            case rel => exact ⟨k + 1, by omega, by go_num, by rw [HQ.out], HK.out⟩
            case measure => simp [intOf]; omega
          | true =>
            rw [hrt] at hrc
            by_cases hz : x = 0
            · subst hz
              have HQ := Lib.hid (show okR R (k + 1) = true by rw [HO.out, hok, hrt, HX.out]; rfl)
              clear hok hrt
              go_wp2_with (first
                | (refine load_want HK.out 0 16 Try.underlying23 rfl vec_info _ rfl rfl rfl rfl (by have := HR.out; omega) ?_)
                | (go_at_call 63; (with_reducible refine (hrc _).mono ?_); rintro e u ⟨rfl, hb⟩; have hk := HK.out.call hb; clear hb hc1; have hc1 := (hk.get 0 rfl).cell (k := 32 + k * 16 + k) (by have := HR.out; omega); rw [HX.out] at hc1; clear HK; have HK := Lib.hid hk; clear hk))
              go_roundw
              case rel => exact ⟨k + 1, by omega, by go_num, by rw [HQ.out], HK.out⟩
              case measure => simp [intOf]; omega
            · have HQ := Lib.hid (show okR R (k + 1) = false by rw [HO.out, hok, hrt, HX.out, beq_eq_false_iff_ne.2 hz]; rfl)
              clear hok hrt
              go_wp2_with (first
                | (refine load_want HK.out 0 16 Try.underlying23 rfl vec_info _ rfl rfl rfl rfl (by have := HR.out; omega) ?_)
                | (go_at_call 63; (with_reducible refine (hrc _).mono ?_); rintro e u ⟨rfl, hb⟩; have hk := HK.out.call hb; clear hb hc1; have hc1 := (hk.get 0 rfl).cell (k := 32 + k * 16 + k) (by have := HR.out; omega); rw [HX.out] at hc1; clear HK; have HK := Lib.hid hk; clear hk))
              go_roundw
              case rel => exact ⟨k + 1, by omega, by go_num, by rw [HQ.out, beq_eq_false_iff_ne.2 hz], HK.out⟩
              case measure => simp [intOf]; omega
      · obtain rfl : k = 16 := by omega
        rw [HOK.out]
        go_wp2
        go_ret
        exact ⟨rfl, HK.out.bel⟩
  | true =>
    cases h1 : rightB (seg R 16 16) with
    | false =>
      rw [h0, h1] at h00
      rw [h0] at c0
      rw [h1] at c1
      have H00 := Lib.hid h00; clear h00 h0 h1
      rw [Bool.true_and] at H00
      go_enter Try.func43, Try.ntmps43
      go_wp2_with (first
        | (with_reducible refine box_new HK.out rfl _ rfl rfl ?_; intro b u hk hb; clear hb; clear HK; have HK := Lib.hid hk; clear hk)
        | (with_reducible refine load_part HK.out 0 16 Try.underlying23 rfl vec_info rfl _ rfl rfl rfl (by have := HR.out; omega) ?_)
        | (refine load_want HK.out 0 16 Try.underlying23 rfl vec_info _ rfl rfl rfl rfl (by have := HR.out; omega) ?_)
        | (go_at_call 63; (with_reducible refine (c0 _).mono ?_); rintro e u ⟨rfl, hb⟩; have hk := HK.out.call hb; clear hb; clear HK; have HK := Lib.hid hk; clear hk)
        | (go_at_call 63; (with_reducible refine (c1 _).mono ?_); rintro e u ⟨rfl, hb⟩; have hk := HK.out.call hb; clear hb; clear HK; have HK := Lib.hid hk; clear hk))
      go_loopw [3, 4] (fun ok i wr => ∃ k : Nat, k ≤ 16 ∧ i = .int .i64 k ∧ ok = .bool (okR R k) ∧ KeepR w [(b, 26, R)] wr) (fun _ i _ => 16 - (intOf i).toNat)
      case atStart => exact ⟨0, by omega, rfl, by rw [H00.out], HK.out⟩
      case round =>
        obtain ⟨k, hk0, rfl, rfl, hk⟩ := hrel
        clear HK
        have HK := Lib.hid hk
        clear hk
        by_cases hlt : k < 16
        · have HO := Lib.hid (okR_succ R k)
          have hc1 := (HK.out.get 0 rfl).cell (k := 32 + k * 16 + k) (by have := HR.out; omega)
          have HL := Lib.hid (seg_length (R := R) (o := 32 + k * 16) (n := 16) (by have := HR.out; omega))
          have hrc := rright_any (seg R (32 + k * 16) 16) HL.out
          have i1 : (0 : Int) ≤ (k : Int) := by omega
          have i2 : (k : Int) < 16 := by omega
          generalize hx : R.getD (32 + k * 16 + k) 0 = x at hc1
          have HX := Lib.hid hx; clear hx
          cases hok : okR R k with
          | false =>
            have HQ := Lib.hid (show okR R (k + 1) = false by rw [HO.out, hok]; rfl)
            clear hok hrc
            go_wp2
            go_roundw
            case rel => exact ⟨k + 1, by omega, by go_num, by rw [HQ.out], HK.out⟩
            case measure => simp [intOf]; omega
          | true =>
            cases hrt : rightB (seg R (32 + k * 16) 16) with
            | false =>
              have HQ := Lib.hid (show okR R (k + 1) = false by rw [HO.out, hok, hrt]; rfl)
              rw [hrt] at hrc
              clear hok hrt
              go_wp2_with (first
                | (refine load_want HK.out 0 16 Try.underlying23 rfl vec_info _ rfl rfl rfl rfl (by have := HR.out; omega) ?_)
                | (go_at_call 63; (with_reducible refine (hrc _).mono ?_); rintro e u ⟨rfl, hb⟩; have hk := HK.out.call hb; clear hb hc1; have hc1 := (hk.get 0 rfl).cell (k := 32 + k * 16 + k) (by have := HR.out; omega); rw [HX.out] at hc1; clear HK; have HK := Lib.hid hk; clear hk))
              go_roundw
              case rel => exact ⟨k + 1, by omega, by go_num, by rw [HQ.out], HK.out⟩
              case measure => simp [intOf]; omega
            | true =>
              rw [hrt] at hrc
              by_cases hz : x = 0
              · subst hz
                have HQ := Lib.hid (show okR R (k + 1) = true by rw [HO.out, hok, hrt, HX.out]; rfl)
                clear hok hrt
                go_wp2_with (first
                  | (refine load_want HK.out 0 16 Try.underlying23 rfl vec_info _ rfl rfl rfl rfl (by have := HR.out; omega) ?_)
                  | (go_at_call 63; (with_reducible refine (hrc _).mono ?_); rintro e u ⟨rfl, hb⟩; have hk := HK.out.call hb; clear hb hc1; have hc1 := (hk.get 0 rfl).cell (k := 32 + k * 16 + k) (by have := HR.out; omega); rw [HX.out] at hc1; clear HK; have HK := Lib.hid hk; clear hk))
                go_roundw
                case rel => exact ⟨k + 1, by omega, by go_num, by rw [HQ.out], HK.out⟩
                case measure => simp [intOf]; omega
              · have HQ := Lib.hid (show okR R (k + 1) = false by rw [HO.out, hok, hrt, HX.out, beq_eq_false_iff_ne.2 hz]; rfl)
                clear hok hrt
                go_wp2_with (first
                  | (refine load_want HK.out 0 16 Try.underlying23 rfl vec_info _ rfl rfl rfl rfl (by have := HR.out; omega) ?_)
                  | (go_at_call 63; (with_reducible refine (hrc _).mono ?_); rintro e u ⟨rfl, hb⟩; have hk := HK.out.call hb; clear hb hc1; have hc1 := (hk.get 0 rfl).cell (k := 32 + k * 16 + k) (by have := HR.out; omega); rw [HX.out] at hc1; clear HK; have HK := Lib.hid hk; clear hk))
                go_roundw
                case rel => exact ⟨k + 1, by omega, by go_num, by rw [HQ.out, beq_eq_false_iff_ne.2 hz], HK.out⟩
                case measure => simp [intOf]; omega
        · obtain rfl : k = 16 := by omega
          rw [HOK.out]
          go_wp2
          go_ret
          exact ⟨rfl, HK.out.bel⟩
    | true =>
      rw [h0, h1] at h00
      rw [h0] at c0
      rw [h1] at c1
      have H00 := Lib.hid h00; clear h00 h0 h1
      rw [Bool.true_and] at H00
      go_enter Try.func43, Try.ntmps43
      go_wp2_with (first
        | (with_reducible refine box_new HK.out rfl _ rfl rfl ?_; intro b u hk hb; clear hb; clear HK; have HK := Lib.hid hk; clear hk)
        | (with_reducible refine load_part HK.out 0 16 Try.underlying23 rfl vec_info rfl _ rfl rfl rfl (by have := HR.out; omega) ?_)
        | (refine load_want HK.out 0 16 Try.underlying23 rfl vec_info _ rfl rfl rfl rfl (by have := HR.out; omega) ?_)
        | (go_at_call 63; (with_reducible refine (c0 _).mono ?_); rintro e u ⟨rfl, hb⟩; have hk := HK.out.call hb; clear hb; clear HK; have HK := Lib.hid hk; clear hk)
        | (go_at_call 63; (with_reducible refine (c1 _).mono ?_); rintro e u ⟨rfl, hb⟩; have hk := HK.out.call hb; clear hb; clear HK; have HK := Lib.hid hk; clear hk))
      go_loopw [3, 4] (fun ok i wr => ∃ k : Nat, k ≤ 16 ∧ i = .int .i64 k ∧ ok = .bool (okR R k) ∧ KeepR w [(b, 26, R)] wr) (fun _ i _ => 16 - (intOf i).toNat)
      case atStart => exact ⟨0, by omega, rfl, by rw [H00.out], HK.out⟩
      case round =>
        obtain ⟨k, hk0, rfl, rfl, hk⟩ := hrel
        clear HK
        have HK := Lib.hid hk
        clear hk
        by_cases hlt : k < 16
        · have HO := Lib.hid (okR_succ R k)
          have hc1 := (HK.out.get 0 rfl).cell (k := 32 + k * 16 + k) (by have := HR.out; omega)
          have HL := Lib.hid (seg_length (R := R) (o := 32 + k * 16) (n := 16) (by have := HR.out; omega))
          have hrc := rright_any (seg R (32 + k * 16) 16) HL.out
          have i1 : (0 : Int) ≤ (k : Int) := by omega
          have i2 : (k : Int) < 16 := by omega
          generalize hx : R.getD (32 + k * 16 + k) 0 = x at hc1
          have HX := Lib.hid hx; clear hx
          cases hok : okR R k with
          | false =>
            have HQ := Lib.hid (show okR R (k + 1) = false by rw [HO.out, hok]; rfl)
            clear hok hrc
            go_wp2
            go_roundw
            case rel => exact ⟨k + 1, by omega, by go_num, by rw [HQ.out], HK.out⟩
            case measure => simp [intOf]; omega
          | true =>
            cases hrt : rightB (seg R (32 + k * 16) 16) with
            | false =>
              have HQ := Lib.hid (show okR R (k + 1) = false by rw [HO.out, hok, hrt]; rfl)
              rw [hrt] at hrc
              clear hok hrt
              go_wp2_with (first
                | (refine load_want HK.out 0 16 Try.underlying23 rfl vec_info _ rfl rfl rfl rfl (by have := HR.out; omega) ?_)
                | (go_at_call 63; (with_reducible refine (hrc _).mono ?_); rintro e u ⟨rfl, hb⟩; have hk := HK.out.call hb; clear hb hc1; have hc1 := (hk.get 0 rfl).cell (k := 32 + k * 16 + k) (by have := HR.out; omega); rw [HX.out] at hc1; clear HK; have HK := Lib.hid hk; clear hk))
              go_roundw
              case rel => exact ⟨k + 1, by omega, by go_num, by rw [HQ.out], HK.out⟩
              case measure => simp [intOf]; omega
            | true =>
              rw [hrt] at hrc
              by_cases hz : x = 0
              · subst hz
                have HQ := Lib.hid (show okR R (k + 1) = true by rw [HO.out, hok, hrt, HX.out]; rfl)
                clear hok hrt
                go_wp2_with (first
                  | (refine load_want HK.out 0 16 Try.underlying23 rfl vec_info _ rfl rfl rfl rfl (by have := HR.out; omega) ?_)
                  | (go_at_call 63; (with_reducible refine (hrc _).mono ?_); rintro e u ⟨rfl, hb⟩; have hk := HK.out.call hb; clear hb hc1; have hc1 := (hk.get 0 rfl).cell (k := 32 + k * 16 + k) (by have := HR.out; omega); rw [HX.out] at hc1; clear HK; have HK := Lib.hid hk; clear hk))
                go_roundw
                case rel => exact ⟨k + 1, by omega, by go_num, by rw [HQ.out], HK.out⟩
                case measure => simp [intOf]; omega
              · have HQ := Lib.hid (show okR R (k + 1) = false by rw [HO.out, hok, hrt, HX.out, beq_eq_false_iff_ne.2 hz]; rfl)
                clear hok hrt
                go_wp2_with (first
                  | (refine load_want HK.out 0 16 Try.underlying23 rfl vec_info _ rfl rfl rfl rfl (by have := HR.out; omega) ?_)
                  | (go_at_call 63; (with_reducible refine (hrc _).mono ?_); rintro e u ⟨rfl, hb⟩; have hk := HK.out.call hb; clear hb hc1; have hc1 := (hk.get 0 rfl).cell (k := 32 + k * 16 + k) (by have := HR.out; omega); rw [HX.out] at hc1; clear HK; have HK := Lib.hid hk; clear hk))
                go_roundw
                case rel => exact ⟨k + 1, by omega, by go_num, by rw [HQ.out, beq_eq_false_iff_ne.2 hz], HK.out⟩
                case measure => simp [intOf]; omega
        · obtain rfl : k = 16 := by omega
          rw [HOK.out]
          go_wp2
          go_ret
          exact ⟨rfl, HK.out.bel⟩
end Go.Proofs.Ytofngihdnjgmeaa

namespace Go.Proofs.Ytofngihdnjgmeaa
set_option maxRecDepth 100000
open Go.ChangeShapes Go.WideShapes Go.ChangeAt Go.RowKit

end Go.Proofs.Ytofngihdnjgmeaa

namespace Go.Proofs.Ytofngihdnjgmeaa
set_option maxRecDepth 100000
open Go.ChangeShapes Go.WideShapes Go.ChangeAt Go.RowKit

end Go.Proofs.Ytofngihdnjgmeaa

namespace Go.Proofs.Ytofngihdnjgmeaa
set_option maxRecDepth 100000
open Go.ChangeShapes Go.WideShapes Go.ChangeAt Go.RowKit

end Go.Proofs.Ytofngihdnjgmeaa

namespace Go.Proofs.Ytofngihdnjgmeaa
set_option maxRecDepth 100000
open Go.ChangeShapes Go.WideShapes Go.ChangeAt Go.RowKit

end Go.Proofs.Ytofngihdnjgmeaa

namespace Go.Proofs.Ytofngihdnjgmeaa
set_option maxRecDepth 100000
open Go.ChangeShapes Go.WideShapes Go.ChangeAt Go.RowKit

theorem KeepR.sub {w u : World} {l l' : List (Nat × TypeId × List Int)} (h : KeepR w l u) (hs : l'.Sublist l) : KeepR w l' u :=
  ⟨h.bel, fun x hx => h.blk x (hs.subset hx), h.apart.sublist (hs.map _)⟩
end Go.Proofs.Ytofngihdnjgmeaa

namespace Go.Proofs.Ytofngihdnjgmeaa
set_option maxRecDepth 100000
open Go.ChangeShapes Go.WideShapes Go.ChangeAt Go.RowKit

end Go.Proofs.Ytofngihdnjgmeaa

namespace Go.Proofs.Ytofngihdnjgmeaa
set_option maxRecDepth 100000
open Go.ChangeShapes Go.WideShapes Go.ChangeAt Go.RowKit

end Go.Proofs.Ytofngihdnjgmeaa
