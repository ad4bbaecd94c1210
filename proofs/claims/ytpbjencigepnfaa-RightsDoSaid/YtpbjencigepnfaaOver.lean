/- Contracts of rights.Over and of rights.Join's own closure. -/
import Derived.Test.YtpbjencigepnfaaVecDo
import Derived.WalkMore
import Derived.Test.YtpbjencigepnfaaVecs2
namespace Go.Proofs.Ytpbjencigepnfaa
open Go.ChangeShapes Go.WideShapes Go.ChangeAt Go.RowKit

/-- Rights are over others, vector by vector. -/
theorem over_rows {R T : List Int} (hR : R.length = 288) (hT : T.length = 288) : overB R T = true ↔ ∀ j, j < 18 → overB (seg R (j * 16) 16) (seg T (j * 16) 16) = true := by
  have key : overB R T = true ↔ ∀ k, k < 288 → T.getD k 0 ≤ R.getD k 0 := by
    simp only [overB, beq_iff_eq]
    constructor
    · intro h k hk
      have := joinL_get (xs := R) (ys := T) (k := k) (by omega) (by omega)
      rw [h] at this
      omega
    · intro h
      refine ext_get (by simp [joinL, hR, hT]) fun k hk => ?_
      have hk : k < 288 := by simp [joinL, hR, hT] at hk; omega
      rw [joinL_get (by omega) (by omega)]
      have := h k hk
      omega
  rw [key]
  constructor
  · intro h j hj
    refine (overB_iff (seg_length (by omega)) (seg_length (by omega))).2 fun k hk => ?_
    rw [seg_get hk, seg_get hk]
    exact h _ (by omega)
  · intro h k hk
    have h1 := (overB_iff (seg_length (by omega)) (seg_length (by omega))).1 (h (k / 16) (by omega)) (k % 16) (by omega)
    rw [seg_get (by omega), seg_get (by omega), show k / 16 * 16 + k % 16 = k by omega] at h1
    exact h1
theorem over_not {R T : List Int} (hR : R.length = 288) (hT : T.length = 288) {j : Nat} (hj : j < 18) (h : overB (seg R (j * 16) 16) (seg T (j * 16) 16) = false) : false = overB R T := by
  cases hr : overB R T with
  | false => rfl
  | true => rw [(over_rows hR hT).1 hr j hj] at h; cases h

set_option maxHeartbeats 1000000 in
theorem rover_r (R T : List Int) (hR : R.length = 288) (hT : T.length = 288) (w : World) :
    Calls Try.prog 26 #[.agg (vals R).toArray, .agg (vals T).toArray] w fun e w' => e = .returned (.bool (overB R T)) ∧ Below w.heap.size w w' := by
  have HOV := Lib.hid (over_rows hR hT)
  have HNO := Lib.hid (fun j (hj : j < 18) h => over_not hR hT (j := j) hj h)
  have HR := Lib.hid hR; clear hR
  have HT := Lib.hid hT; clear hT
  have HK := Lib.hid (KeepR.start w)
  have HV := Lib.hid True.intro
  have HU := Lib.hid True.intro
  go_enter Try.func26, Try.ntmps26
  go_wp2_with (first
    | (with_reducible refine box_new HK.out rfl _ rfl rfl ?_; intro b u hk hb; clear hb; clear HK; have HK := Lib.hid hk; clear hk)
    | (with_reducible refine load_all HK.out 0 288 Try.underlying26 rfl r_info rfl _ rfl rfl rfl HT.out ?_)
    | (with_reducible refine load_all HK.out 1 288 Try.underlying26 rfl r_info rfl _ rfl rfl rfl HR.out ?_)
    | (go_at_call 34; (with_reducible refine (vectors_any R HR.out _).mono ?_); rintro e u ⟨b2, c2, rfl, hv, hb⟩; have hk := HK.out.call hb; clear hb HV; have HV := Lib.hid (row_at hv HR.out); clear hv; clear HK; have HK := Lib.hid hk; clear hk)
    | (go_at_call 34; (with_reducible refine (vectors_any T HT.out _).mono ?_); rintro e u ⟨b3, c3, rfl, hv, hb⟩; have hk := HK.out.call hb; have hv2 := HV.out.call hb; clear hb HU HV; have HU := Lib.hid (row_at hv HT.out); have HV := Lib.hid hv2; clear hv hv2; clear HK; have HK := Lib.hid hk; clear hk))
  go_step3
  go_wp2_with (first
    | (with_reducible refine box_new HK.out rfl _ rfl rfl ?_; intro b u hk hb; clear hb; clear HK; have HK := Lib.hid hk; clear hk)
    | (with_reducible refine load_all HK.out 0 288 Try.underlying26 rfl r_info rfl _ rfl rfl rfl HT.out ?_)
    | (with_reducible refine load_all HK.out 1 288 Try.underlying26 rfl r_info rfl _ rfl rfl rfl HR.out ?_)
    | (go_at_call 34; (with_reducible refine (vectors_any R HR.out _).mono ?_); rintro e u ⟨b2, c2, rfl, hv, hb⟩; have hk := HK.out.call hb; clear hb HV; have HV := Lib.hid (row_at hv HR.out); clear hv; clear HK; have HK := Lib.hid hk; clear hk)
    | (go_at_call 34; (with_reducible refine (vectors_any T HT.out _).mono ?_); rintro e u ⟨b3, c3, rfl, hv, hb⟩; have hk := HK.out.call hb; have hv2 := HV.out.call hb; clear hb HU HV; have HU := Lib.hid (row_at hv HT.out); have HV := Lib.hid hv2; clear hv hv2; clear HK; have HK := Lib.hid hk; clear hk))
  go_step3
  go_wp2_with (first
    | (with_reducible refine box_new HK.out rfl _ rfl rfl ?_; intro b u hk hb; clear hb; clear HK; have HK := Lib.hid hk; clear hk)
    | (with_reducible refine load_all HK.out 0 288 Try.underlying26 rfl r_info rfl _ rfl rfl rfl HT.out ?_)
    | (with_reducible refine load_all HK.out 1 288 Try.underlying26 rfl r_info rfl _ rfl rfl rfl HR.out ?_)
    | (go_at_call 34; (with_reducible refine (vectors_any R HR.out _).mono ?_); rintro e u ⟨b2, c2, rfl, hv, hb⟩; have hk := HK.out.call hb; clear hb HV; have HV := Lib.hid (row_at hv HR.out); clear hv; clear HK; have HK := Lib.hid hk; clear hk)
    | (go_at_call 34; (with_reducible refine (vectors_any T HT.out _).mono ?_); rintro e u ⟨b3, c3, rfl, hv, hb⟩; have hk := HK.out.call hb; have hv2 := HV.out.call hb; clear hb HU HV; have HU := Lib.hid (row_at hv HT.out); have HV := Lib.hid hv2; clear hv hv2; clear HK; have HK := Lib.hid hk; clear hk))
  go_loopw [6, 14] (fun ov i wr => ∃ k : Nat, k ≤ 18 ∧ i = .int .i64 k ∧ ov = .bool true ∧ Below w.heap.size w wr ∧ RowAt wr b2 R ∧ RowAt wr b3 T ∧ ∀ j, j < k → overB (seg R (j * 16) 16) (seg T (j * 16) 16) = true) (fun _ i _ => 18 - (intOf i).toNat)
  case atStart => exact ⟨0, by omega, rfl, rfl, HK.out.bel, HV.out, HU.out, fun j hj => by omega⟩
  case round =>
    obtain ⟨k, hk0, rfl, rfl, hbel, hv, hu, hD⟩ := hrel
    clear HK HV HU
    have HK := Lib.hid (show KeepR w [] wr from ⟨hbel, by simp, by simp⟩); have HV := Lib.hid hv; have HU := Lib.hid hu; have HD := Lib.hid hD
    clear hbel hv hu hD
    by_cases hlt : k < 18
    · have HL := Lib.hid (seg_length (R := R) (o := k * 16) (n := 16) (by have := HR.out; omega))
      have HM := Lib.hid (seg_length (R := T) (o := k * 16) (n := 16) (by have := HT.out; omega))
      have i1 : (0 : Int) ≤ (k : Int) := by omega
      have i2 : (k : Int) < 18 := by omega
      have hne := Lib.hid True.intro
      have hrc := over_any (seg R (k * 16) 16) (seg T (k * 16) 16) HL.out HM.out
      have HX := Lib.hid (fun h : overB (seg R (k * 16) 16) (seg T (k * 16) 16) = true => fun j (hj : j < k + 1) => (show overB (seg R (j * 16) 16) (seg T (j * 16) 16) = true by
        by_cases hjk : j = k
        · rw [hjk]; exact h
        · exact HD.out j (by omega)))
      have HY := Lib.hid (HNO.out k hlt)
      generalize overB (seg R (k * 16) 16) (seg T (k * 16) 16) = ov at hrc HX HY
      go_wp2_with (first
        | (with_reducible refine alloc_zero HK.out 16 v_zero rfl rfl ?_; intro b4 u hn hk hb; clear hne; have hne := Lib.hid (And.intro (Nat.ne_of_lt (hn ▸ HV.out.lt)) (Nat.ne_of_lt (hn ▸ HU.out.lt))); have hv := HV.out.call hb; have hu := HU.out.call hb; clear hb hn HV HU; have HV := Lib.hid hv; have HU := Lib.hid hu; clear hv hu; clear HK; have HK := Lib.hid hk; clear hk)
        | (with_reducible refine store_all HK.out 0 16 vec_info rfl rfl _ _ rfl rfl rfl rfl HM.out (zer_length 16) ?_; intro u hk hs; have hv := HV.out.other hs hne.out.1; have hu := HU.out.other hs hne.out.2; clear hs HV HU; have HV := Lib.hid hv; have HU := Lib.hid hu; clear hv hu; simp only [List.set_cons_zero] at hk; clear HK; have HK := Lib.hid hk; clear hk)
        | (with_reducible refine load_row HU.out rfl _ rfl rfl (by have := HT.out; omega) ?_))
      refine Draws.start (S := fun u => KeepR w [(b4, 23, seg T (k * 16) 16)] u ∧ RowAt u b2 R ∧ RowAt u b3 T) (n := 7) 7 rfl (by kernel_rfl) ?_
      have HS := Lib.hid ((⟨HK.out.drew, HV.out.drew, HU.out.drew⟩ : (fun u => KeepR w [(b4, 23, seg T (k * 16) 16)] u ∧ RowAt u b2 R ∧ RowAt u b3 T) _))
      refine Draws.take 0 (v := ?v0) HS.out rfl (by kernel_rfl) (fun _ _ _ h => h) (Or.inl ⟨rfl, ?h0⟩) ?r0
      case h0 => intro w' hw'; go_simp; (try with_reducible rfl)
      (try simp only [Act.put, List.setIfInBounds_toArray, List.set_cons_zero, List.set_cons_succ])
      refine Draws.take 1 (v := ?v1) HS.out rfl (by kernel_rfl) (fun _ _ _ h => h) (Or.inl ⟨rfl, ?h1⟩) ?r1
      case h1 => intro w' hw'; go_simp; (try with_reducible rfl)
      (try simp only [Act.put, List.setIfInBounds_toArray, List.set_cons_zero, List.set_cons_succ])
      refine Draws.take 2 (v := ?v2) HS.out rfl (by kernel_rfl) (fun _ _ _ h => h) (Or.inl ⟨rfl, ?h2⟩) ?r2
      case h2 => intro w' hw'; go_simp; (try with_reducible rfl)
      (try simp only [Act.put, List.setIfInBounds_toArray, List.set_cons_zero, List.set_cons_succ])
      refine Draws.take 3 HS.out rfl (by kernel_rfl) (fun _ _ _ h => h) (yield_row (fun _ h => h.2.1) rfl _ rfl rfl (by have := HR.out; omega)) ?_
      (try simp only [Act.put, List.setIfInBounds_toArray, List.set_cons_zero, List.set_cons_succ])
      refine Draws.take 4 HS.out rfl (by kernel_rfl) (fun _ _ _ h => h) (yield_all (fun _ h => h.1) 0 16 Try.underlying23 rfl vec_info rfl _ rfl rfl rfl HM.out) ?_
      (try simp only [Act.put, List.setIfInBounds_toArray, List.set_cons_zero, List.set_cons_succ])
      refine Draws.does 5 rfl (by kernel_rfl) rfl (fun K hK => ?_)
      go_simp
      go_at_call 44
      refine (hrc _).mono ?_
      rintro e u ⟨rfl, hb⟩
      (try dsimp only)
      refine hK.out _ _ (fun _ => ⟨HS.out.1.call hb, HS.out.2.1.call hb, HS.out.2.2.call hb⟩) ?_
      clear hK K
      have hs : (fun u => KeepR w [(b4, 23, seg T (k * 16) 16)] u ∧ RowAt u b2 R ∧ RowAt u b3 T) u := ⟨HS.out.1.call hb, HS.out.2.1.call hb, HS.out.2.2.call hb⟩
      clear HS
      have HS := Lib.hid hs; clear hs
      (try simp only [Act.put, List.setIfInBounds_toArray, List.set_cons_zero, List.set_cons_succ])
      clear hb
      refine Draws.take 6 (v := ?v6) HS.out rfl (by kernel_rfl) (fun _ _ _ h => h) (Or.inl ⟨rfl, ?h6⟩) ?r6
      case h6 => intro w' hw'; go_simp; (try with_reducible rfl)
      (try simp only [Act.put, List.setIfInBounds_toArray, List.set_cons_zero, List.set_cons_succ])
      refine Draws.done (by kernel_rfl) ?_
      cases ov with
      | false =>
        have HF := Lib.hid (HY.out rfl)
        go_wp2
        (try rw [Exit.noGoto_ret])
        go_ret
        exact ⟨congrArg (fun b => Ending.returned (.bool b)) HF.out, HS.out.1.bel⟩
      | true =>
        have HF := Lib.hid (HX.out rfl)
        go_wp2
        go_roundw
        case rel => exact ⟨k + 1, by omega, by go_num, rfl, HS.out.1.bel, HS.out.2.1, HS.out.2.2, HF.out⟩
        case measure => simp [intOf]; omega
    · have ht : true = overB R T := (HOV.out.2 fun j hj => HD.out j (by omega)).symm
      have HF := Lib.hid ht; clear ht
      go_wp2
      (try rw [Exit.noGoto_ret])
      go_ret
      exact ⟨congrArg (fun b => Ending.returned (.bool b)) HF.out, HK.out.bel⟩
end Go.Proofs.Ytpbjencigepnfaa
