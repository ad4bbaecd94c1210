/- Contracts of rights.Right and the document's Right. A contract of the document's Right. Contracts of rights.covered, rights.Use and rights.Move. Contracts of the document's Use and Move. Contracts of rights.Over and of rights.Join's own closure. Contracts of rights.Join and its closure. A contract of rights.Join. Rights, built of two vectors. Contracts of the document's Join and Over. -/
import Derived.Test.YtbaccghnneidgaaGreatLBase2
import Derived.Test.YtbaccghnneidgaaGreatLBase3
import Derived.Test.YtbaccghnneidgaaGreatLBase0
import Derived.WalkMore
namespace Go.Proofs.YtbaccghnneidgaaGreat
set_option maxRecDepth 100000
open Go.ChangeShapes Go.WideShapes Go.ChangeAt Go.RowKit

/-- May rights be? -/
def rightsB (R : List Int) : Bool := ((List.range 18).all fun j => rightB (seg R (j * 16) 16)) && ((List.range 16).all fun j => R.getD (32 + j * 16 + j) 0 == 0)
theorem rightsB_iff {R : List Int} : rightsB R = true ↔ (∀ j, j < 18 → rightB (seg R (j * 16) 16) = true) ∧ ∀ j, j < 16 → R.getD (32 + j * 16 + j) 0 = 0 := by
  simp [rightsB]
theorem rightsB_vec {R : List Int} {j : Nat} (hj : j < 18) (h : rightB (seg R (j * 16) 16) = false) : false = rightsB R := by
  cases hr : rightsB R with
  | false => rfl
  | true => rw [(rightsB_iff.1 hr).1 j hj] at h; cases h
theorem rightsB_own {R : List Int} {j : Nat} (hj : j < 16) (h : R.getD (32 + j * 16 + j) 0 ≠ 0) : false = rightsB R := by
  cases hr : rightsB R with
  | false => rfl
  | true => exact absurd ((rightsB_iff.1 hr).2 j hj) h

theorem right_r (R : List Int) (hR : R.length = 288) (w : World) :
    Calls Tryz.prog 130 #[.agg (vals R).toArray] w fun e w' => e = .returned (.bool (rightsB R)) ∧ Below w.heap.size w w' := by
  have HR := Lib.hid hR; clear hR
  have HK := Lib.hid (KeepR.start w)
  have HV := Lib.hid True.intro
  go_enter Tryz.func130, Tryz.ntmps130
  go_wp2_with (first
    | (with_reducible refine box_new HK.out rfl _ rfl rfl ?_; intro b u hk hb; clear hb; clear HK; have HK := Lib.hid hk; clear hk)
    | (with_reducible refine load_all HK.out 0 288 Tryz.underlying26 rfl r_info rfl _ rfl rfl rfl HR.out ?_)
    | (go_at_call 150; (with_reducible refine (vectors_any R HR.out _).mono ?_); rintro e u ⟨b2, c2, rfl, hv, hb⟩; have hk := HK.out.call hb; clear hb HV; have HV := Lib.hid (row_at hv HR.out); clear hv; clear HK; have HK := Lib.hid hk; clear hk))
  go_loopw [10] (fun i wr => ∃ k : Nat, k ≤ 18 ∧ i = .int .i64 k ∧ KeepR w [(b, 26, R)] wr ∧ RowAt wr b2 R ∧ ∀ j, j < k → rightB (seg R (j * 16) 16) = true) (fun i _ => 18 - (intOf i).toNat)
  case atStart => exact ⟨0, by omega, rfl, HK.out, HV.out, fun j hj => by omega⟩
  case round =>
    obtain ⟨k, hk0, rfl, hk, hv, hD⟩ := hrel
    clear HK HV
    have HK := Lib.hid hk; have HV := Lib.hid hv; have HD := Lib.hid hD
    clear hk hv hD
    by_cases hlt : k < 18
    · have HL := Lib.hid (seg_length (R := R) (o := k * 16) (n := 16) (by have := HR.out; omega))
      have i1 : (0 : Int) ≤ (k : Int) := by omega
      have i2 : (k : Int) < 18 := by omega
      have hne := Lib.hid True.intro
      cases hrt : rightB (seg R (k * 16) 16) with
      | false =>
        have hrc := right_any (seg R (k * 16) 16) HL.out
        rw [hrt] at hrc
        have HF := Lib.hid (rightsB_vec hlt hrt)
        clear hrt
        go_wp2_with (first
          | (with_reducible refine alloc_zero HK.out 16 v_zero rfl rfl ?_; intro b4 u hn hk hb; clear hne; have hne := Lib.hid (Nat.ne_of_lt (hn ▸ HV.out.lt)); have hv := HV.out.call hb; clear hb hn HV; have HV := Lib.hid hv; clear hv; clear HK; have HK := Lib.hid hk; clear hk)
          | (with_reducible refine store_all HK.out 0 16 vec_info rfl rfl _ _ rfl rfl rfl rfl HL.out (zer_length 16) ?_; intro u hk hs; have hv := HV.out.other hs hne.out; clear hs HV; have HV := Lib.hid hv; clear hv; simp only [List.set_cons_zero] at hk; clear HK; have HK := Lib.hid hk; clear hk)
          | (with_reducible refine load_row HV.out rfl _ rfl rfl (by have := HR.out; omega) ?_)
          | (with_reducible refine load_all HK.out 0 16 Tryz.underlying23 rfl vec_info rfl _ rfl rfl rfl HL.out ?_)
          | (go_at_call 151; (with_reducible refine (hrc _).mono ?_); rintro e u ⟨rfl, hb⟩; have hk := HK.out.call hb; have hv := HV.out.call hb; clear hb HV; have HV := Lib.hid hv; clear hv; clear HK; have HK := Lib.hid hk; clear hk))
        go_ret
        exact ⟨congrArg (fun b => Ending.returned (.bool b)) HF.out, HK.out.bel⟩
      | true =>
        have hrc := right_any (seg R (k * 16) 16) HL.out
        rw [hrt] at hrc
        have HT := Lib.hid hrt
        clear hrt
        go_wp2_with (first
          | (with_reducible refine alloc_zero HK.out 16 v_zero rfl rfl ?_; intro b4 u hn hk hb; clear hne; have hne := Lib.hid (Nat.ne_of_lt (hn ▸ HV.out.lt)); have hv := HV.out.call hb; clear hb hn HV; have HV := Lib.hid hv; clear hv; clear HK; have HK := Lib.hid hk; clear hk)
          | (with_reducible refine store_all HK.out 0 16 vec_info rfl rfl _ _ rfl rfl rfl rfl HL.out (zer_length 16) ?_; intro u hk hs; have hv := HV.out.other hs hne.out; clear hs HV; have HV := Lib.hid hv; clear hv; simp only [List.set_cons_zero] at hk; clear HK; have HK := Lib.hid hk; clear hk)
          | (with_reducible refine load_row HV.out rfl _ rfl rfl (by have := HR.out; omega) ?_)
          | (with_reducible refine load_all HK.out 0 16 Tryz.underlying23 rfl vec_info rfl _ rfl rfl rfl HL.out ?_)
          | (go_at_call 151; (with_reducible refine (hrc _).mono ?_); rintro e u ⟨rfl, hb⟩; have hk := HK.out.call hb; have hv := HV.out.call hb; clear hb HV; have HV := Lib.hid hv; clear hv; clear HK; have HK := Lib.hid hk; clear hk))
        go_roundw
        case rel => exact ⟨k + 1, by omega, by go_num, HK.out.tail, HV.out, fun j hj => by
          by_cases hjk : j = k
          · rw [hjk]; exact HT.out
          · exact HD.out j (by omega)⟩
        case measure => simp [intOf]; omega
    · obtain rfl : k = 18 := by omega
      simp only [show ((18 : Nat) : Int) = 18 from rfl]
      have HL := Lib.hid (seg_length (R := R) (o := 32) (n := 256) (by have := HR.out; omega))
      go_wp2_with (first
        | (with_reducible refine load_part HK.out 0 256 Tryz.underlying24 rfl m_info rfl _ rfl rfl rfl (by have := HR.out; omega) ?_))
      go_loopw [20] (fun i wr => ∃ m : Nat, m ≤ 16 ∧ i = .int .i64 m ∧ KeepR w [(b, 26, R)] wr ∧ ∀ j, j < m → R.getD (32 + j * 16 + j) 0 = 0) (fun i _ => 16 - (intOf i).toNat)
      case atStart => exact ⟨0, by omega, rfl, HK.out, fun j hj => by omega⟩
      case round =>
        obtain ⟨m, hm, rfl, hk, hE⟩ := hrel
        clear HK HV
        have HK := Lib.hid hk; have HE := Lib.hid hE
        clear hk hE
        by_cases hlt : m < 16
        · have hix : ∀ W : World, (Instr.index 24 (.agg (vals (seg R 32 256)).toArray) (.int .i64 (m : Int))).run Tryz.prog W = .ok (.agg (vals (seg (seg R 32 256) (m * 16) 16)).toArray) W := fun W => index_row HL.out hlt W
          rw [show seg (seg R 32 256) (m * 16) 16 = seg R (32 + m * 16) 16 from seg_seg (by omega)] at hix
          have hrl : (seg R (32 + m * 16) 16).length = 16 := seg_length (by have := HR.out; omega)
          have hrg : (seg R (32 + m * 16) 16).getD m 0 = R.getD (32 + m * 16 + m) 0 := seg_get hlt
          generalize hx : R.getD (32 + m * 16 + m) 0 = x at hrg
          have HL2 := Lib.hid hrl; have HG := Lib.hid hrg; have HX := Lib.hid hx
          clear hrl hrg hx
          have j1 : (0 : Int) ≤ (m : Int) := by omega
          have j2 : (m : Int) < 16 := by omega
          by_cases hz : x = 0
          · subst hz
            go_wp2_with (first
              | (with_reducible refine alloc_zero HK.out 16 v_zero rfl rfl ?_; intro b u hn hk hb; clear hn; clear hb; clear HK; have HK := Lib.hid hk; clear hk)
              | (with_reducible refine store_all HK.out 0 16 vec_info rfl rfl _ _ rfl rfl rfl rfl HL2.out (zer_length 16) ?_; intro u hk hs; clear hs; simp only [List.set_cons_zero] at hk; have hc1 := (hk.get 0 rfl).cell (k := m) (by rw [HL2.out]; omega); rw [HG.out] at hc1; clear HK; have HK := Lib.hid hk; clear hk))
            go_roundw
            case rel => exact ⟨m + 1, by omega, by go_num, HK.out.tail, fun j hj => by
              by_cases hjk : j = m
              · rw [hjk]; exact HX.out
              · exact HE.out j (by omega)⟩
            case measure => simp [intOf]; omega
          · have HF := Lib.hid (rightsB_own (R := R) hlt (by rw [HX.out]; exact hz))
            go_wp2_with (first
              | (with_reducible refine alloc_zero HK.out 16 v_zero rfl rfl ?_; intro b u hn hk hb; clear hn; clear hb; clear HK; have HK := Lib.hid hk; clear hk)
              | (with_reducible refine store_all HK.out 0 16 vec_info rfl rfl _ _ rfl rfl rfl rfl HL2.out (zer_length 16) ?_; intro u hk hs; clear hs; simp only [List.set_cons_zero] at hk; have hc1 := (hk.get 0 rfl).cell (k := m) (by rw [HL2.out]; omega); rw [HG.out] at hc1; clear HK; have HK := Lib.hid hk; clear hk))
            go_ret
            exact ⟨congrArg (fun b => Ending.returned (.bool b)) HF.out, HK.out.bel⟩
        · have ht : true = rightsB R := (rightsB_iff.2 ⟨fun j hj => HD.out j (by omega), fun j hj => HE.out j (by omega)⟩).symm
          have HT := Lib.hid ht; clear ht
          go_wp2
          go_ret
          exact ⟨congrArg (fun b => Ending.returned (.bool b)) HT.out, HK.out.bel⟩
end Go.Proofs.YtbaccghnneidgaaGreat

namespace Go.Proofs.YtbaccghnneidgaaGreat
set_option maxRecDepth 100000
open Go.ChangeShapes Go.WideShapes Go.ChangeAt Go.RowKit

end Go.Proofs.YtbaccghnneidgaaGreat

namespace Go.Proofs.YtbaccghnneidgaaGreat
set_option maxRecDepth 100000
open Go.ChangeShapes Go.WideShapes Go.ChangeAt Go.RowKit

/-- Why replica k may not do n. -/
def coverE (R : List Int) (k n : Int) : Int := if freeE R k = 0 ∧ freeN R k < n then 8 else freeE R k
def preU (R : List Int) (k n : Int) : Int := if repB k = true ∧ 0 ≤ n then coverE R k n else 1
def preM (R : List Int) (i k n : Int) : Int := if repB i = true ∧ repB k = true ∧ i ≠ k ∧ 0 ≤ n then coverE R i n else 1
def useE (R : List Int) (k n : Int) : Int := if preU R k n = 0 then grE R 16 k n else preU R k n
def useA (R : List Int) (k n : Int) : List Int := if preU R k n = 0 then grA R 16 k n else zer 288
def moveE (R : List Int) (i k n : Int) : Int := if preM R i k n = 0 then grE R (32 + i.toNat * 16) k n else preM R i k n
def moveA (R : List Int) (i k n : Int) : List Int := if preM R i k n = 0 then grA R (32 + i.toNat * 16) k n else zer 288
theorem useA_length {R : List Int} (h : R.length = 288) (k n : Int) : (useA R k n).length = 288 := by unfold useA; split; exact grA_length h _ _ _; exact zer_length 288
theorem moveA_length {R : List Int} (h : R.length = 288) (i k n : Int) : (moveA R i k n).length = 288 := by unfold moveA; split; exact grA_length h _ _ _; exact zer_length 288
theorem use_no {R : List Int} {k n x : Int} (h : preU R k n = x) (hx : x ≠ 0) : useE R k n = x ∧ useA R k n = zer 288 := by subst h; simp [useE, useA, hx]
theorem use_yes {R : List Int} {k n : Int} (h : preU R k n = 0) : useE R k n = grE R 16 k n ∧ useA R k n = grA R 16 k n := by simp [useE, useA, h]
theorem move_no {R : List Int} {i k n x : Int} (h : preM R i k n = x) (hx : x ≠ 0) : moveE R i k n = x ∧ moveA R i k n = zer 288 := by subst h; simp [moveE, moveA, hx]
theorem move_yes {R : List Int} {i : Nat} {k n : Int} (h : preM R i k n = 0) : moveE R i k n = grE R (32 + i * 16) k n ∧ moveA R i k n = grA R (32 + i * 16) k n := by simp [moveE, moveA, h]

theorem covered_any (R : List Int) (hR : R.length = 288) (k n : Int) (w : World) :
    Calls Tryz.prog 152 #[.agg (vals R).toArray, .int .i64 k, .int .i64 n] w fun e w' => e = .returned (.int .i64 (coverE R k n)) ∧ Below w.heap.size w w' := by
  have hf := free_any R hR k
  have hc : coverE R k n = if freeE R k = 0 ∧ freeN R k < n then 8 else freeE R k := rfl
  rw [hc]; clear hc
  generalize freeN R k = f at hf ⊢
  generalize freeE R k = x at hf ⊢
  have HR := Lib.hid hR; clear hR
  have HK := Lib.hid (KeepR.start w)
  by_cases h0 : x = 0
  · subst h0
    by_cases h1 : f < n
    · rw [if_pos ⟨rfl, h1⟩]
      go_enter Tryz.func152, Tryz.ntmps152
      go_wp2_with (first
        | (with_reducible refine box_new HK.out rfl _ rfl rfl ?_; intro b u hk hb; clear hb; clear HK; have HK := Lib.hid hk; clear hk)
        | (with_reducible refine load_all HK.out 0 288 Tryz.underlying26 rfl r_info rfl _ rfl rfl rfl HR.out ?_)
        | (go_at_call 89; (with_reducible refine (hf _).mono ?_); rintro e u ⟨rfl, hb⟩; have hk := HK.out.call hb; clear hb; clear HK; have HK := Lib.hid hk; clear hk))
      go_ret
      exact ⟨rfl, HK.out.bel⟩
    · rw [if_neg (fun h => h1 h.2)]
      go_enter Tryz.func152, Tryz.ntmps152
      go_wp2_with (first
        | (with_reducible refine box_new HK.out rfl _ rfl rfl ?_; intro b u hk hb; clear hb; clear HK; have HK := Lib.hid hk; clear hk)
        | (with_reducible refine load_all HK.out 0 288 Tryz.underlying26 rfl r_info rfl _ rfl rfl rfl HR.out ?_)
        | (go_at_call 89; (with_reducible refine (hf _).mono ?_); rintro e u ⟨rfl, hb⟩; have hk := HK.out.call hb; clear hb; clear HK; have HK := Lib.hid hk; clear hk))
      go_ret
      exact ⟨rfl, HK.out.bel⟩
  · rw [if_neg (fun h => h0 h.1)]
    go_enter Tryz.func152, Tryz.ntmps152
    go_wp2_with (first
      | (with_reducible refine box_new HK.out rfl _ rfl rfl ?_; intro b u hk hb; clear hb; clear HK; have HK := Lib.hid hk; clear hk)
      | (with_reducible refine load_all HK.out 0 288 Tryz.underlying26 rfl r_info rfl _ rfl rfl rfl HR.out ?_)
      | (go_at_call 89; (with_reducible refine (hf _).mono ?_); rintro e u ⟨rfl, hb⟩; have hk := HK.out.call hb; clear hb; clear HK; have HK := Lib.hid hk; clear hk))
    go_ret
    exact ⟨rfl, HK.out.bel⟩

theorem use_any (R : List Int) (hR : R.length = 288) (k n : Int) (w : World) :
    Calls Tryz.prog 134 #[.agg (vals R).toArray, .int .i64 k, .int .i64 n] w fun e w' => e = .returned (.tuple #[.agg (vals (useA R k n)).toArray, .int .i64 (useE R k n)]) ∧ Below w.heap.size w w' := by
  have hc := covered_any R hR k n
  have hg := grow_any (seg R 16 16) k n (seg_length (by omega))
  rw [show growE (seg R 16 16) k n = grE R 16 k n from rfl] at hg
  have ht := told_r (splice R 16 (growL (seg R 16 16) k n)) (by rw [splice_length]; exact hR) (grE R 16 k n)
  rw [show toldR (splice R 16 (growL (seg R 16 16) k n)) (grE R 16 k n) = grA R 16 k n from rfl] at ht
  have HA := Lib.hid (grA_length hR 16 k n)
  have HS := Lib.hid (seg_length (R := R) (o := 16) (n := 16) (by omega))
  have HT := Lib.hid (splice_length (growL (seg R 16 16) k n) R 16)
  have HR := Lib.hid hR; clear hR
  have HK := Lib.hid (KeepR.start w)
  cases hrep : repB k with
  | false =>
    obtain ⟨e1, e2⟩ := use_no (R := R) (k := k) (n := n) (x := 1) (by simp [preU, hrep]) (by omega)
    rw [e1, e2]; clear e1 e2 hc hg ht
    go_enter Tryz.func134, Tryz.ntmps134
    go_wp2_with (first
      | (with_reducible refine box_new HK.out rfl _ rfl rfl ?_; intro b u hk hb; clear hb; clear HK; have HK := Lib.hid hk; clear hk)
      | (with_reducible refine alloc_zero HK.out 288 r_zero rfl rfl ?_; intro b u hn hk hb; clear hn; clear hb; clear HK; have HK := Lib.hid hk; clear hk)
      | (with_reducible refine build_zero 288 r_build rfl rfl ?_)
      | (go_at_call 124; (with_reducible refine (rep_any _ _).mono ?_); rintro e u ⟨rfl, rfl⟩)
      | (with_reducible refine store_all HK.out 0 288 r_info rfl rfl _ _ rfl rfl rfl rfl (zer_length 288) (zer_length 288) ?_; intro u hk hs; clear hs; simp only [List.set_cons_zero] at hk; clear HK; have HK := Lib.hid hk; clear hk)
      | (with_reducible refine load_all HK.out 1 288 Tryz.underlying26 rfl r_info rfl _ rfl rfl rfl HR.out ?_)
      | (go_at_call 152; (with_reducible refine (hc _).mono ?_); rintro e u ⟨rfl, hb⟩; have hk := HK.out.call hb; clear hb; clear HK; have HK := Lib.hid hk; clear hk))
    exact bodyPost_ret (results_r2 rfl _ HK.out 0 _ rfl rfl rfl (zer_length 288)) rfl ⟨rfl, HK.out.bel⟩
  | true =>
    by_cases hn : n < 0
    · obtain ⟨e1, e2⟩ := use_no (R := R) (k := k) (n := n) (x := 1) (by unfold preU; rw [if_neg (by omega)]) (by omega)
      rw [e1, e2]; clear e1 e2 hc hg ht
      go_enter Tryz.func134, Tryz.ntmps134
      go_wp2_with (first
        | (with_reducible refine box_new HK.out rfl _ rfl rfl ?_; intro b u hk hb; clear hb; clear HK; have HK := Lib.hid hk; clear hk)
        | (with_reducible refine alloc_zero HK.out 288 r_zero rfl rfl ?_; intro b u hn hk hb; clear hn; clear hb; clear HK; have HK := Lib.hid hk; clear hk)
        | (with_reducible refine build_zero 288 r_build rfl rfl ?_)
        | (go_at_call 124; (with_reducible refine (rep_any _ _).mono ?_); rintro e u ⟨rfl, rfl⟩)
        | (with_reducible refine store_all HK.out 0 288 r_info rfl rfl _ _ rfl rfl rfl rfl (zer_length 288) (zer_length 288) ?_; intro u hk hs; clear hs; simp only [List.set_cons_zero] at hk; clear HK; have HK := Lib.hid hk; clear hk)
        | (with_reducible refine load_all HK.out 1 288 Tryz.underlying26 rfl r_info rfl _ rfl rfl rfl HR.out ?_)
        | (go_at_call 152; (with_reducible refine (hc _).mono ?_); rintro e u ⟨rfl, hb⟩; have hk := HK.out.call hb; clear hb; clear HK; have HK := Lib.hid hk; clear hk))
      exact bodyPost_ret (results_r2 rfl _ HK.out 0 _ rfl rfl rfl (zer_length 288)) rfl ⟨rfl, HK.out.bel⟩
    · have hp : preU R k n = coverE R k n := by unfold preU; rw [if_pos ⟨hrep, by omega⟩]
      by_cases h0 : coverE R k n = 0
      · obtain ⟨e1, e2⟩ := use_yes (hp.trans h0)
        rw [e1, e2]
        rw [h0] at hc
        clear e1 e2 hp h0
        go_enter Tryz.func134, Tryz.ntmps134
        go_wp2_with (first
          | (with_reducible refine box_new HK.out rfl _ rfl rfl ?_; intro b u hk hb; clear hb; clear HK; have HK := Lib.hid hk; clear hk)
          | (with_reducible refine alloc_zero HK.out 288 r_zero rfl rfl ?_; intro b u hn hk hb; clear hn; clear hb; clear HK; have HK := Lib.hid hk; clear hk)
          | (with_reducible refine build_zero 288 r_build rfl rfl ?_)
          | (go_at_call 124; (with_reducible refine (rep_any _ _).mono ?_); rintro e u ⟨rfl, rfl⟩)
          | (with_reducible refine load_all HK.out 1 288 Tryz.underlying26 rfl r_info rfl _ rfl rfl rfl HR.out ?_)
          | (go_at_call 152; (with_reducible refine (hc _).mono ?_); rintro e u ⟨rfl, hb⟩; have hk := HK.out.call hb; clear hb; clear HK; have HK := Lib.hid hk; clear hk)
          | (with_reducible refine load_part HK.out 1 16 Tryz.underlying23 rfl vec_info rfl _ rfl rfl rfl (by have := HR.out; omega) ?_)
          | (go_at_call 153; (with_reducible refine (hg _).mono ?_); rintro e u ⟨rfl, hb⟩; have hk := HK.out.call hb; clear hb; clear HK; have HK := Lib.hid hk; clear hk)
          | (with_reducible refine store_part HK.out 1 16 vec_info rfl rfl _ _ rfl rfl rfl rfl (growL_length HS.out _ _) (by have := HR.out; omega) ?_; intro u hk hs; clear hs; simp only [List.set_cons_zero, List.set_cons_succ] at hk; clear HK; have HK := Lib.hid hk; clear hk)
          | (with_reducible refine load_all HK.out 1 288 Tryz.underlying26 rfl r_info rfl _ rfl rfl rfl (by rw [HT.out]; exact HR.out) ?_)
          | (go_at_call 154; (with_reducible refine (ht _).mono ?_); rintro e u ⟨rfl, hb⟩; have hk := HK.out.call hb; clear hb; clear HK; have HK := Lib.hid hk; clear hk)
          | (with_reducible refine store_all HK.out 0 288 r_info rfl rfl _ _ rfl rfl rfl rfl HA.out (zer_length 288) ?_; intro u hk hs; clear hs; simp only [List.set_cons_zero] at hk; clear HK; have HK := Lib.hid hk; clear hk))
        exact bodyPost_ret (results_r2 rfl _ HK.out 0 _ rfl rfl rfl HA.out) rfl ⟨rfl, HK.out.bel⟩
      · obtain ⟨e1, e2⟩ := use_no hp h0
        rw [e1, e2]
        generalize coverE R k n = x at h0 hc
        clear e1 e2 hp hg ht
        go_enter Tryz.func134, Tryz.ntmps134
        go_wp2_with (first
          | (with_reducible refine box_new HK.out rfl _ rfl rfl ?_; intro b u hk hb; clear hb; clear HK; have HK := Lib.hid hk; clear hk)
          | (with_reducible refine alloc_zero HK.out 288 r_zero rfl rfl ?_; intro b u hn hk hb; clear hn; clear hb; clear HK; have HK := Lib.hid hk; clear hk)
          | (with_reducible refine build_zero 288 r_build rfl rfl ?_)
          | (go_at_call 124; (with_reducible refine (rep_any _ _).mono ?_); rintro e u ⟨rfl, rfl⟩)
          | (with_reducible refine store_all HK.out 0 288 r_info rfl rfl _ _ rfl rfl rfl rfl (zer_length 288) (zer_length 288) ?_; intro u hk hs; clear hs; simp only [List.set_cons_zero] at hk; clear HK; have HK := Lib.hid hk; clear hk)
          | (with_reducible refine load_all HK.out 1 288 Tryz.underlying26 rfl r_info rfl _ rfl rfl rfl HR.out ?_)
          | (go_at_call 152; (with_reducible refine (hc _).mono ?_); rintro e u ⟨rfl, hb⟩; have hk := HK.out.call hb; clear hb; clear HK; have HK := Lib.hid hk; clear hk))
        exact bodyPost_ret (results_r2 rfl _ HK.out 0 _ rfl rfl rfl (zer_length 288)) rfl ⟨rfl, HK.out.bel⟩

theorem move_any (R : List Int) (hR : R.length = 288) (i k n : Int) (w : World) :
    Calls Tryz.prog 139 #[.agg (vals R).toArray, .int .i64 i, .int .i64 k, .int .i64 n] w fun e w' => e = .returned (.tuple #[.agg (vals (moveA R i k n)).toArray, .int .i64 (moveE R i k n)]) ∧ Below w.heap.size w w' := by
  have hc := covered_any R hR i n
  have HR := Lib.hid hR
  have HK := Lib.hid (KeepR.start w)
  cases hri : repB i with
  | false =>
    obtain ⟨e1, e2⟩ := move_no (R := R) (i := i) (k := k) (n := n) (x := 1) (by simp [preM, hri]) (by omega)
    rw [e1, e2]; clear e1 e2 hc hR
    go_enter Tryz.func139, Tryz.ntmps139
    go_wp2_with (first
      | (with_reducible refine box_new HK.out rfl _ rfl rfl ?_; intro b u hk hb; clear hb; clear HK; have HK := Lib.hid hk; clear hk)
      | (with_reducible refine alloc_zero HK.out 288 r_zero rfl rfl ?_; intro b u hn hk hb; clear hn; clear hb; clear HK; have HK := Lib.hid hk; clear hk)
      | (with_reducible refine build_zero 288 r_build rfl rfl ?_)
      | (go_at_call 124; (with_reducible refine (rep_any _ _).mono ?_); rintro e u ⟨rfl, rfl⟩)
      | (with_reducible refine store_all HK.out 0 288 r_info rfl rfl _ _ rfl rfl rfl rfl (zer_length 288) (zer_length 288) ?_; intro u hk hs; clear hs; simp only [List.set_cons_zero] at hk; clear HK; have HK := Lib.hid hk; clear hk)
      | (with_reducible refine load_all HK.out 1 288 Tryz.underlying26 rfl r_info rfl _ rfl rfl rfl HR.out ?_)
      | (go_at_call 152; (with_reducible refine (hc _).mono ?_); rintro e u ⟨rfl, hb⟩; have hk := HK.out.call hb; clear hb; clear HK; have HK := Lib.hid hk; clear hk))
    exact bodyPost_ret (results_r2 rfl _ HK.out 0 _ rfl rfl rfl (zer_length 288)) rfl ⟨rfl, HK.out.bel⟩
  | true =>
    cases hrk : repB k with
    | false =>
      obtain ⟨e1, e2⟩ := move_no (R := R) (i := i) (k := k) (n := n) (x := 1) (by simp [preM, hrk]) (by omega)
      rw [e1, e2]; clear e1 e2 hc hR
      go_enter Tryz.func139, Tryz.ntmps139
      go_wp2_with (first
        | (with_reducible refine box_new HK.out rfl _ rfl rfl ?_; intro b u hk hb; clear hb; clear HK; have HK := Lib.hid hk; clear hk)
        | (with_reducible refine alloc_zero HK.out 288 r_zero rfl rfl ?_; intro b u hn hk hb; clear hn; clear hb; clear HK; have HK := Lib.hid hk; clear hk)
        | (with_reducible refine build_zero 288 r_build rfl rfl ?_)
        | (go_at_call 124; (with_reducible refine (rep_any _ _).mono ?_); rintro e u ⟨rfl, rfl⟩)
        | (with_reducible refine store_all HK.out 0 288 r_info rfl rfl _ _ rfl rfl rfl rfl (zer_length 288) (zer_length 288) ?_; intro u hk hs; clear hs; simp only [List.set_cons_zero] at hk; clear HK; have HK := Lib.hid hk; clear hk)
        | (with_reducible refine load_all HK.out 1 288 Tryz.underlying26 rfl r_info rfl _ rfl rfl rfl HR.out ?_)
        | (go_at_call 152; (with_reducible refine (hc _).mono ?_); rintro e u ⟨rfl, hb⟩; have hk := HK.out.call hb; clear hb; clear HK; have HK := Lib.hid hk; clear hk))
      exact bodyPost_ret (results_r2 rfl _ HK.out 0 _ rfl rfl rfl (zer_length 288)) rfl ⟨rfl, HK.out.bel⟩
    | true =>
      by_cases hik : i = k
      · obtain ⟨e1, e2⟩ := move_no (R := R) (i := i) (k := k) (n := n) (x := 1) (by simp [preM, hik]) (by omega)
        rw [e1, e2]; clear e1 e2 hc hR
        subst hik
        go_enter Tryz.func139, Tryz.ntmps139
        go_wp2_with (first
          | (with_reducible refine box_new HK.out rfl _ rfl rfl ?_; intro b u hk hb; clear hb; clear HK; have HK := Lib.hid hk; clear hk)
          | (with_reducible refine alloc_zero HK.out 288 r_zero rfl rfl ?_; intro b u hn hk hb; clear hn; clear hb; clear HK; have HK := Lib.hid hk; clear hk)
          | (with_reducible refine build_zero 288 r_build rfl rfl ?_)
          | (go_at_call 124; (with_reducible refine (rep_any _ _).mono ?_); rintro e u ⟨rfl, rfl⟩)
          | (with_reducible refine store_all HK.out 0 288 r_info rfl rfl _ _ rfl rfl rfl rfl (zer_length 288) (zer_length 288) ?_; intro u hk hs; clear hs; simp only [List.set_cons_zero] at hk; clear HK; have HK := Lib.hid hk; clear hk)
          | (with_reducible refine load_all HK.out 1 288 Tryz.underlying26 rfl r_info rfl _ rfl rfl rfl HR.out ?_)
          | (go_at_call 152; (with_reducible refine (hc _).mono ?_); rintro e u ⟨rfl, hb⟩; have hk := HK.out.call hb; clear hb; clear HK; have HK := Lib.hid hk; clear hk))
        exact bodyPost_ret (results_r2 rfl _ HK.out 0 _ rfl rfl rfl (zer_length 288)) rfl ⟨rfl, HK.out.bel⟩
      · have b1 : (i == k) = false := beq_eq_false_iff_ne.2 hik
        have b2 : (i != k) = true := by simp [bne, b1]
        by_cases hn : n < 0
        · obtain ⟨e1, e2⟩ := move_no (R := R) (i := i) (k := k) (n := n) (x := 1) (by unfold preM; rw [if_neg (by omega)]) (by omega)
          rw [e1, e2]; clear e1 e2 hc hR
          go_enter Tryz.func139, Tryz.ntmps139
          go_wp2_with (first
            | (with_reducible refine box_new HK.out rfl _ rfl rfl ?_; intro b u hk hb; clear hb; clear HK; have HK := Lib.hid hk; clear hk)
            | (with_reducible refine alloc_zero HK.out 288 r_zero rfl rfl ?_; intro b u hn hk hb; clear hn; clear hb; clear HK; have HK := Lib.hid hk; clear hk)
            | (with_reducible refine build_zero 288 r_build rfl rfl ?_)
            | (go_at_call 124; (with_reducible refine (rep_any _ _).mono ?_); rintro e u ⟨rfl, rfl⟩)
            | (with_reducible refine store_all HK.out 0 288 r_info rfl rfl _ _ rfl rfl rfl rfl (zer_length 288) (zer_length 288) ?_; intro u hk hs; clear hs; simp only [List.set_cons_zero] at hk; clear HK; have HK := Lib.hid hk; clear hk)
            | (with_reducible refine load_all HK.out 1 288 Tryz.underlying26 rfl r_info rfl _ rfl rfl rfl HR.out ?_)
            | (go_at_call 152; (with_reducible refine (hc _).mono ?_); rintro e u ⟨rfl, hb⟩; have hk := HK.out.call hb; clear hb; clear HK; have HK := Lib.hid hk; clear hk))
          exact bodyPost_ret (results_r2 rfl _ HK.out 0 _ rfl rfl rfl (zer_length 288)) rfl ⟨rfl, HK.out.bel⟩
        · have hp : preM R i k n = coverE R i n := by unfold preM; rw [if_pos ⟨hri, hrk, hik, by omega⟩]
          by_cases h0 : coverE R i n = 0
          · obtain ⟨j, rfl⟩ : ∃ j : Nat, i = j := ⟨i.toNat, by have := repB_iff.1 hri; omega⟩
            have hj : j < 16 := by have := repB_iff.1 hri; omega
            have hg := grow_any (seg R (32 + j * 16) 16) k n (seg_length (by omega))
            rw [show growE (seg R (32 + j * 16) 16) k n = grE R (32 + j * 16) k n from rfl] at hg
            have ht := told_r (splice R (32 + j * 16) (growL (seg R (32 + j * 16) 16) k n)) (by rw [splice_length]; exact hR) (grE R (32 + j * 16) k n)
            rw [show toldR (splice R (32 + j * 16) (growL (seg R (32 + j * 16) 16) k n)) (grE R (32 + j * 16) k n) = grA R (32 + j * 16) k n from rfl] at ht
            have HA := Lib.hid (grA_length hR (32 + j * 16) k n)
            have HS := Lib.hid (seg_length (R := R) (o := 32 + j * 16) (n := 16) (by omega))
            have HT := Lib.hid (splice_length (growL (seg R (32 + j * 16) 16) k n) R (32 + j * 16))
            obtain ⟨e1, e2⟩ := move_yes (hp.trans h0)
            rw [e1, e2]
            rw [h0] at hc
            have i1 : (0 : Int) ≤ (j : Int) := by omega
            have i2 : (j : Int) < 16 := by omega
            clear e1 e2 hp h0 hR
            go_enter Tryz.func139, Tryz.ntmps139
            go_wp2_with (first
              | (with_reducible refine box_new HK.out rfl _ rfl rfl ?_; intro b u hk hb; clear hb; clear HK; have HK := Lib.hid hk; clear hk)
              | (with_reducible refine alloc_zero HK.out 288 r_zero rfl rfl ?_; intro b u hn hk hb; clear hn; clear hb; clear HK; have HK := Lib.hid hk; clear hk)
              | (with_reducible refine build_zero 288 r_build rfl rfl ?_)
              | (go_at_call 124; (with_reducible refine (rep_any _ _).mono ?_); rintro e u ⟨rfl, rfl⟩)
              | (with_reducible refine load_all HK.out 1 288 Tryz.underlying26 rfl r_info rfl _ rfl rfl rfl HR.out ?_)
              | (go_at_call 152; (with_reducible refine (hc _).mono ?_); rintro e u ⟨rfl, hb⟩; have hk := HK.out.call hb; clear hb; clear HK; have HK := Lib.hid hk; clear hk)
              | (with_reducible refine load_part HK.out 1 16 Tryz.underlying23 rfl vec_info rfl _ rfl rfl rfl (by have := HR.out; omega) ?_)
              | (go_at_call 153; (with_reducible refine (hg _).mono ?_); rintro e u ⟨rfl, hb⟩; have hk := HK.out.call hb; clear hb; clear HK; have HK := Lib.hid hk; clear hk)
              | (with_reducible refine store_part HK.out 1 16 vec_info rfl rfl _ _ rfl rfl rfl rfl (growL_length HS.out _ _) (by have := HR.out; omega) ?_; intro u hk hs; clear hs; simp only [List.set_cons_zero, List.set_cons_succ] at hk; clear HK; have HK := Lib.hid hk; clear hk)
              | (with_reducible refine load_all HK.out 1 288 Tryz.underlying26 rfl r_info rfl _ rfl rfl rfl (by rw [HT.out]; exact HR.out) ?_)
              | (go_at_call 154; (with_reducible refine (ht _).mono ?_); rintro e u ⟨rfl, hb⟩; have hk := HK.out.call hb; clear hb; clear HK; have HK := Lib.hid hk; clear hk)
              | (with_reducible refine store_all HK.out 0 288 r_info rfl rfl _ _ rfl rfl rfl rfl HA.out (zer_length 288) ?_; intro u hk hs; clear hs; simp only [List.set_cons_zero] at hk; clear HK; have HK := Lib.hid hk; clear hk))
            exact bodyPost_ret (results_r2 rfl _ HK.out 0 _ rfl rfl rfl HA.out) rfl ⟨rfl, HK.out.bel⟩
          · obtain ⟨e1, e2⟩ := move_no hp h0
            rw [e1, e2]
            generalize coverE R i n = x at h0 hc
            clear e1 e2 hp hR
            go_enter Tryz.func139, Tryz.ntmps139
            go_wp2_with (first
              | (with_reducible refine box_new HK.out rfl _ rfl rfl ?_; intro b u hk hb; clear hb; clear HK; have HK := Lib.hid hk; clear hk)
              | (with_reducible refine alloc_zero HK.out 288 r_zero rfl rfl ?_; intro b u hn hk hb; clear hn; clear hb; clear HK; have HK := Lib.hid hk; clear hk)
              | (with_reducible refine build_zero 288 r_build rfl rfl ?_)
              | (go_at_call 124; (with_reducible refine (rep_any _ _).mono ?_); rintro e u ⟨rfl, rfl⟩)
              | (with_reducible refine store_all HK.out 0 288 r_info rfl rfl _ _ rfl rfl rfl rfl (zer_length 288) (zer_length 288) ?_; intro u hk hs; clear hs; simp only [List.set_cons_zero] at hk; clear HK; have HK := Lib.hid hk; clear hk)
              | (with_reducible refine load_all HK.out 1 288 Tryz.underlying26 rfl r_info rfl _ rfl rfl rfl HR.out ?_)
              | (go_at_call 152; (with_reducible refine (hc _).mono ?_); rintro e u ⟨rfl, hb⟩; have hk := HK.out.call hb; clear hb; clear HK; have HK := Lib.hid hk; clear hk))
            exact bodyPost_ret (results_r2 rfl _ HK.out 0 _ rfl rfl rfl (zer_length 288)) rfl ⟨rfl, HK.out.bel⟩
end Go.Proofs.YtbaccghnneidgaaGreat

namespace Go.Proofs.YtbaccghnneidgaaGreat
set_option maxRecDepth 100000
open Go.ChangeShapes Go.WideShapes Go.ChangeAt Go.RowKit

theorem cover_ok {R : List Int} {k n : Int} (h : freeE R k = 0) (hf : ¬ freeN R k < n) : coverE R k n = 0 := by unfold coverE; rw [if_neg (fun h2 => hf h2.2), h]
theorem grA_ok {R : List Int} {o : Nat} {k n : Int} (h : grE R o k n = 0) : grA R o k n = splice R o (growL (seg R o 16) k n) := by unfold grA; rw [h, toldR_ok]
end Go.Proofs.YtbaccghnneidgaaGreat

namespace Go.Proofs.YtbaccghnneidgaaGreat
set_option maxRecDepth 100000
open Go.ChangeShapes Go.WideShapes Go.ChangeAt Go.RowKit

end Go.Proofs.YtbaccghnneidgaaGreat

namespace Go.Proofs.YtbaccghnneidgaaGreat
set_option maxRecDepth 100000
open Go.ChangeShapes Go.WideShapes Go.ChangeAt Go.RowKit

theorem joinL_len {R T : List Int} {n : Nat} (hR : R.length = n) (hT : T.length = n) : (joinL R T).length = n := by simp [joinL, hR, hT]
theorem seg_join {R T : List Int} {o n : Nat} (hR : o + n ≤ R.length) (hT : o + n ≤ T.length) : joinL (seg R o n) (seg T o n) = seg (joinL R T) o n := by
  have hJ : o + n ≤ (joinL R T).length := by simp [joinL]; omega
  refine ext_get (by rw [joinL_len (seg_length hR) (seg_length hT), seg_length hJ]) fun k hk => ?_
  rw [joinL_len (seg_length hR) (seg_length hT)] at hk
  rw [joinL_get (by rw [seg_length hR]; exact hk) (by rw [seg_length hT]; exact hk), seg_get hk, seg_get hk, seg_get hk, joinL_get (by omega) (by omega)]
theorem mix_at {J R : List Int} (h : J.length = R.length) (m i : Nat) (hi : i < R.length) : (mix m J R).getD i 0 = if i < m then J.getD i 0 else R.getD i 0 := by
  simp only [mix, List.getD, List.getElem?_append, List.length_take, List.getElem?_take, List.getElem?_drop]
  by_cases h1 : i < m
  · simp [h1, show i < min m J.length by omega]
  · by_cases h2 : m ≤ J.length
    · simp [h1, show ¬ i < min m J.length by omega, show m + (i - min m J.length) = i by omega]
    · omega
theorem mix_rest {J R : List Int} (h : J.length = R.length) {m n : Nat} (hm : m + n ≤ R.length) : seg (mix m J R) m n = seg R m n := by
  refine ext_get (by rw [seg_length (by rw [mix_length h]; exact hm), seg_length hm]) fun k hk => ?_
  rw [seg_length (by rw [mix_length h]; exact hm)] at hk
  rw [seg_get hk, seg_get hk, mix_at h _ _ (by omega), if_neg (by omega)]
theorem mix_splice {J R : List Int} (h : J.length = R.length) {m n : Nat} (hm : m + n ≤ R.length) : splice (mix m J R) m (seg J m n) = mix (m + n) J R := by
  have hl : (seg J m n).length = n := seg_length (by omega)
  refine ext_get (by rw [splice_length, mix_length h, mix_length h]) fun k hk => ?_
  rw [splice_length, mix_length h] at hk
  rw [splice_get _ _ _ _ (by rw [hl, mix_length h]; exact hm), hl, mix_at h _ _ hk, mix_at h _ _ hk]
  by_cases h1 : k < m
  · rw [if_neg (by omega), if_pos h1, if_pos (by omega)]
  · by_cases h2 : k < m + n
    · rw [if_pos (by omega), if_pos h2, seg_get (by omega)]; congr 1; omega
    · rw [if_neg (by omega), if_neg h1, if_neg h2]

set_option maxHeartbeats 1000000 in
theorem join1_any (b off : Nat) (t : TypeId) (A ys : List Int) (hA : off + 16 ≤ A.length) (hy : ys.length = 16) (w : World) (hB : Blk w b t A) :
    Calls Tryz.prog 166 #[.pointer (some ⟨b, off, none⟩), .agg (vals ys).toArray] w fun e w' => e = .returned (.tuple #[]) ∧ ∃ u, Below w.heap.size w u ∧ w' = u.setCells b off (vals (joinL (seg A off 16) ys)) := by
  have HJ := Lib.hid (joinL_len (n := 16) (seg_length hA) hy)
  have HL := Lib.hid (seg_length hA)
  have HY := Lib.hid hy; have HA := Lib.hid hA; have HB := Lib.hid hB
  clear hy hA hB
  have HK := Lib.hid (KeepR.start w)
  go_enter Tryz.func166, Tryz.ntmps166
  go_wp2_with (first
    | (with_reducible refine box_new HK.out rfl _ rfl rfl ?_; intro b3 u hk hb; clear hb; clear HK; have HK := Lib.hid hk; clear hk))
  refine Draws.start (S := fun u => KeepR w [(b3, 23, ys)] u) (n := 7) 8 rfl (by kernel_rfl) ?_
  have HS := Lib.hid ((HK.out.drew : (fun u => KeepR w [(b3, 23, ys)] u) _))
  refine Draws.take 0 (v := ?v0) HS.out rfl (by kernel_rfl) (fun _ _ _ h => h) (Or.inl ⟨rfl, ?h0⟩) ?r0
  case h0 => intro w' hw'; go_simp; (try with_reducible rfl)
  (try simp only [Act.put, List.setIfInBounds_toArray, List.set_cons_zero, List.set_cons_succ])
  refine Draws.take 1 (v := ?v1) HS.out rfl (by kernel_rfl) (fun _ _ _ h => h) (Or.inl ⟨rfl, ?h1⟩) ?r1
  case h1 => intro w' hw'; go_simp; (try with_reducible rfl)
  (try simp only [Act.put, List.setIfInBounds_toArray, List.set_cons_zero, List.set_cons_succ])
  refine Draws.take 2 (v := ?v2) HS.out rfl (by kernel_rfl) (fun _ _ _ h => h) (Or.inl ⟨rfl, ?h2⟩) ?r2
  case h2 => intro w' hw'; go_simp; (try with_reducible rfl)
  (try simp only [Act.put, List.setIfInBounds_toArray, List.set_cons_zero, List.set_cons_succ])
  refine Draws.take 3 HS.out rfl (by kernel_rfl) (fun _ _ _ h => h) (yieldsIf_load_mid rfl _ _ rfl _ _ rfl (vals (seg A off 16)) _ (fun u h => (HB.out.below h.bel HB.out.lt).seg HA.out) Tryz.underlying23 rfl (by rw [vals_length, HL.out]; exact vec_info)) ?_
  (try simp only [Act.put, List.setIfInBounds_toArray, List.set_cons_zero, List.set_cons_succ])
  refine Draws.take 4 HS.out rfl (by kernel_rfl) (fun _ _ _ h => h) (yield_all (fun _ h => h) 0 16 Tryz.underlying23 rfl vec_info rfl _ rfl rfl rfl HY.out) ?_
  (try simp only [Act.put, List.setIfInBounds_toArray, List.set_cons_zero, List.set_cons_succ])
  refine Draws.does 5 rfl (by kernel_rfl) rfl (fun K hK => ?_)
  go_simp
  go_at_call 167
  refine (join_any (seg A off 16) ys HL.out HY.out _).mono ?_
  rintro e u ⟨rfl, hb⟩
  (try dsimp only)
  refine hK.out _ _ (fun _ => HS.out.call hb) ?_
  clear hK K
  have hs : (fun u => KeepR w [(b3, 23, ys)] u) u := HS.out.call hb
  clear HS
  have HS := Lib.hid hs; clear hs
  (try simp only [Act.put, List.setIfInBounds_toArray, List.set_cons_zero, List.set_cons_succ])
  clear hb
  refine Draws.take 6 (v := ?v6) HS.out rfl (by kernel_rfl) (fun _ _ _ h => h) (Or.inl ⟨rfl, ?h6⟩) ?r6
  case h6 => intro w' hw'; go_simp; (try with_reducible rfl)
  (try simp only [Act.put, List.setIfInBounds_toArray, List.set_cons_zero, List.set_cons_succ])
  refine Draws.does 7 rfl (by kernel_rfl) rfl (fun K hK => ?_)
  refine wp_store_mid _ _ _ rfl _ _ _ rfl rfl (by simp only [List.size_toArray, vals_length, HJ.out]; exact (HB.out.below HS.out.bel HB.out.lt).thereAt HA.out) (by simp only [List.size_toArray, vals_length, HJ.out]; exact vec_info) (vals_all _) ?_
  refine hK.out _ _ (fun h => absurd h (by omega)) ?_
  clear hK K
  (try simp only [Act.put])
  refine Draws.done (by kernel_rfl) ?_
  go_wp2_with fail
  go_end0
  exact ⟨rfl, _, HS.out.bel, rfl⟩
end Go.Proofs.YtbaccghnneidgaaGreat

namespace Go.Proofs.YtbaccghnneidgaaGreat
set_option maxRecDepth 100000
open Go.ChangeShapes Go.WideShapes Go.ChangeAt Go.RowKit

theorem KeepR.sub {w u : World} {l l' : List (Nat × TypeId × List Int)} (h : KeepR w l u) (hs : l'.Sublist l) : KeepR w l' u :=
  ⟨h.bel, fun x hx => h.blk x (hs.subset hx), h.apart.sublist (hs.map _)⟩
theorem join_step {R T : List Int} (hR : R.length = 288) (hT : T.length = 288) {m : Nat} (hm : m + 16 ≤ 288) : splice (mix m (joinL R T) R) m (joinL (seg (mix m (joinL R T) R) m 16) (seg T m 16)) = mix (m + 16) (joinL R T) R := by
  have hJ := joinL_len hR hT
  rw [mix_rest (by omega) (by omega), seg_join (by omega) (by omega), mix_splice (by omega) (by omega)]

set_option maxHeartbeats 1000000 in
theorem join_r (R T : List Int) (hR : R.length = 288) (hT : T.length = 288) (w : World) :
    Calls Tryz.prog 146 #[.agg (vals R).toArray, .agg (vals T).toArray] w fun e w' => e = .returned (.agg (vals (joinL R T)).toArray) ∧ Below w.heap.size w w' := by
  have HJ := Lib.hid (joinL_len hR hT)
  have HST := Lib.hid (fun m (hm : m + 16 ≤ 288) => join_step hR hT (m := m) hm)
  have h0 := join_step hR hT (m := 0) (by omega)
  rw [mix_zero] at h0
  have H0 := Lib.hid h0; clear h0
  have HML := Lib.hid (fun m => mix_length (zs := joinL R T) (xs := R) (by rw [joinL_len hR hT, hR]) m)
  have HS0 := Lib.hid (seg_length (R := T) (o := 0) (n := 16) (by omega))
  have HS1 := Lib.hid (seg_length (R := T) (o := 16) (n := 16) (by omega))
  have HSM := Lib.hid (seg_length (R := T) (o := 32) (n := 256) (by omega))
  have HR := Lib.hid hR; clear hR
  have HT := Lib.hid hT; clear hT
  have HK := Lib.hid (KeepR.start w)
  go_enter Tryz.func146, Tryz.ntmps146
  go_wp2_with (first
    | (with_reducible refine box_new (R := R) HK.out rfl _ rfl rfl ?_; intro bR u hk hb; clear hb; clear HK; have HK := Lib.hid hk; clear hk)
    | (with_reducible refine box_new (R := T) HK.out rfl _ rfl rfl ?_; intro bT u hk hb; clear hb; clear HK; have HK := Lib.hid hk; clear hk)
    | (with_reducible refine alloc_zero HK.out 288 r_zero rfl rfl ?_; intro bZ u hn hk hb; clear hn hb; clear HK; have HK := Lib.hid hk; clear hk)
    | (with_reducible refine load_part HK.out 1 16 Tryz.underlying23 rfl vec_info rfl _ rfl rfl rfl (by have := HT.out; omega) ?_)
    | (go_at_call 166; (with_reducible refine (join1_any _ 0 _ R (seg T 0 16) (by have := HR.out; omega) HS0.out _ (HK.out.get 2 rfl)).mono ?_); rintro e u ⟨rfl, u1, hb, hu⟩; have hk := (HK.out.call hb).setCells 2 rfl 0 (joinL (seg R 0 16) (seg T 0 16)); rw [← hu, H0.out] at hk; clear hu hb; simp only [List.set_cons_zero, List.set_cons_succ] at hk; clear HK; have HK := Lib.hid hk; clear hk)
    | (go_at_call 166; (with_reducible refine (join1_any _ 16 _ (mix 16 (joinL R T) R) (seg T 16 16) (by rw [HML.out, HR.out]; omega) HS1.out _ (HK.out.get 2 rfl)).mono ?_); rintro e u ⟨rfl, u1, hb, hu⟩; have hk := (HK.out.call hb).setCells 2 rfl 16 (joinL (seg (mix 16 (joinL R T) R) 16 16) (seg T 16 16)); rw [← hu, HST.out 16 (by omega)] at hk; clear hu hb; simp only [List.set_cons_zero, List.set_cons_succ] at hk; clear HK; have HK := Lib.hid hk; clear hk)
    | (with_reducible refine load_part HK.out 1 256 Tryz.underlying24 rfl m_info rfl _ rfl rfl rfl (by have := HT.out; omega) ?_))
  go_loopw [20] (fun i wr => ∃ m : Nat, m ≤ 16 ∧ i = .int .i64 m ∧ KeepR w [(bZ, 26, zer 288), (bT, 26, T), (bR, 26, mix (32 + m * 16) (joinL R T) R)] wr) (fun i _ => 16 - (intOf i).toNat)
  case atStart => exact ⟨0, by omega, rfl, HK.out⟩
  case round =>
    obtain ⟨m, hm, rfl, hk⟩ := hrel
    clear HK
    have HK := Lib.hid hk
    clear hk
    by_cases hlt : m < 16
    · have hix : ∀ W : World, (Instr.index 24 (.agg (vals (seg T 32 256)).toArray) (.int .i64 (m : Int))).run Tryz.prog W = .ok (.agg (vals (seg (seg T 32 256) (m * 16) 16)).toArray) W := fun W => index_row HSM.out hlt W
      rw [show seg (seg T 32 256) (m * 16) 16 = seg T (32 + m * 16) 16 from seg_seg (by omega)] at hix
      have HL := Lib.hid (seg_length (R := T) (o := 32 + m * 16) (n := 16) (by have := HT.out; omega))
      have HE := Lib.hid (HST.out (32 + m * 16) (by omega))
      have j1 : (0 : Int) ≤ (m : Int) := by omega
      have j2 : (m : Int) < 16 := by omega
      go_wp2_with (first
        | (with_reducible refine alloc_zero HK.out 16 v_zero rfl rfl ?_; intro b7 u hn hk hb; clear hn hb; clear HK; have HK := Lib.hid hk; clear hk)
        | (with_reducible refine store_all HK.out 0 16 vec_info rfl rfl _ _ rfl rfl rfl rfl HL.out (zer_length 16) ?_; intro u hk hs; clear hs; simp only [List.set_cons_zero] at hk; clear HK; have HK := Lib.hid hk; clear hk))
      refine Draws.start (S := fun u => KeepR w [(b7, 23, seg T (32 + m * 16) 16), (bZ, 26, zer 288), (bT, 26, T)] u) (n := 6) 6 rfl (by kernel_rfl) ?_
      have HS := Lib.hid ((HK.out.drew.sub (List.sublist_append_left _ [_]) : (fun u => KeepR w [(b7, 23, seg T (32 + m * 16) 16), (bZ, 26, zer 288), (bT, 26, T)] u) _))
      refine Draws.take 0 (v := ?v0) HS.out rfl (by kernel_rfl) (fun _ _ _ h => h) (Or.inl ⟨rfl, ?h0⟩) ?r0
      case h0 => intro w' hw'; go_simp; (try with_reducible rfl)
      (try simp only [Act.put, List.setIfInBounds_toArray, List.set_cons_zero, List.set_cons_succ])
      refine Draws.take 1 (v := ?v1) HS.out rfl (by kernel_rfl) (fun _ _ _ h => h) (Or.inl ⟨rfl, ?h1⟩) ?r1
      case h1 => intro w' hw'; go_simp; (try with_reducible rfl)
      (try simp only [Act.put, List.setIfInBounds_toArray, List.set_cons_zero, List.set_cons_succ])
      refine Draws.take 2 (v := ?v2) HS.out rfl (by kernel_rfl) (fun _ _ _ h => h) (Or.inl ⟨rfl, ?h2⟩) ?r2
      case h2 => intro w' hw'; go_simp; (try with_reducible rfl)
      (try simp only [Act.put, List.setIfInBounds_toArray, List.set_cons_zero, List.set_cons_succ])
      refine Draws.take 3 (v := ?v3) HS.out rfl (by kernel_rfl) (fun _ _ _ h => h) (Or.inl ⟨rfl, ?h3⟩) ?r3
      case h3 => intro w' hw'; go_simp; (try with_reducible rfl)
      (try simp only [Act.put, List.setIfInBounds_toArray, List.set_cons_zero, List.set_cons_succ])
      refine Draws.take 4 HS.out rfl (by kernel_rfl) (fun _ _ _ h => h) (yield_all (fun _ h => h) 0 16 Tryz.underlying23 rfl vec_info rfl _ rfl rfl rfl HL.out) ?_
      (try simp only [Act.put, List.setIfInBounds_toArray, List.set_cons_zero, List.set_cons_succ])
      refine Draws.does 5 rfl (by kernel_rfl) rfl (fun K hK => ?_)
      go_simp
      go_at_call 166
      refine (join1_any _ (32 + m * 16) _ (mix (32 + m * 16) (joinL R T) R) (seg T (32 + m * 16) 16) (by rw [HML.out, HR.out]; omega) HL.out _ (HK.out.drew.get 3 rfl)).mono ?_
      rintro e u ⟨rfl, u1, hb, hu⟩
      (try dsimp only)
      have hk := (HK.out.drew.call hb).setCells 3 rfl (32 + m * 16) (joinL (seg (mix (32 + m * 16) (joinL R T) R) (32 + m * 16) 16) (seg T (32 + m * 16) 16))
      rw [← hu, HE.out] at hk
      simp only [List.set_cons_zero, List.set_cons_succ] at hk
      clear HK hu hb
      have HK := Lib.hid hk; clear hk
      refine hK.out _ _ (fun _ => HK.out.sub (List.sublist_append_left _ [_])) ?_
      clear hK K
      have hs : (fun u => KeepR w [(b7, 23, seg T (32 + m * 16) 16), (bZ, 26, zer 288), (bT, 26, T)] u) u := HK.out.sub (List.sublist_append_left _ [_])
      clear HS
      have HS := Lib.hid hs; clear hs
      (try simp only [Act.put, List.setIfInBounds_toArray, List.set_cons_zero, List.set_cons_succ])
      refine Draws.done (by kernel_rfl) ?_
      go_wp2
      go_roundw
      case rel => exact ⟨m + 1, by omega, by go_num, by have h := HK.out.tail; rw [show 32 + m * 16 + 16 = 32 + (m + 1) * 16 by omega] at h; exact h⟩
      case measure => simp [intOf]; omega
    · obtain rfl : m = 16 := by omega
      have hk := HK.out
      rw [show 32 + 16 * 16 = 288 from rfl, mix_all (by rw [HJ.out, HR.out]) (by rw [HR.out]; omega)] at hk
      clear HK
      have HK := Lib.hid hk; clear hk
      go_wp2_with (first
        | (with_reducible refine load_all HK.out 2 288 Tryz.underlying26 rfl r_info rfl _ rfl rfl rfl HJ.out ?_)
        | (with_reducible refine store_all HK.out 0 288 r_info rfl rfl _ _ rfl rfl rfl rfl HJ.out (zer_length 288) ?_; intro u hk hs; clear hs; simp only [List.set_cons_zero] at hk; clear HK; have HK := Lib.hid hk; clear hk))
      exact bodyPost_ret (results_r rfl Tryz.underlying26 rfl r_info _ HK.out 0 rfl rfl HJ.out) rfl ⟨rfl, HK.out.bel⟩
end Go.Proofs.YtbaccghnneidgaaGreat

namespace Go.Proofs.YtbaccghnneidgaaGreat
set_option maxRecDepth 100000
open Go.ChangeShapes Go.WideShapes Go.ChangeAt Go.RowKit

end Go.Proofs.YtbaccghnneidgaaGreat

namespace Go.Proofs.YtbaccghnneidgaaGreat
set_option maxRecDepth 100000
open Go.ChangeShapes Go.WideShapes Go.ChangeAt Go.RowKit

end Go.Proofs.YtbaccghnneidgaaGreat
