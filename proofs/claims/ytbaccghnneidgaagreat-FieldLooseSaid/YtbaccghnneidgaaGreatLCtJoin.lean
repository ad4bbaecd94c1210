/- Contracts of counter.Join, Room, between and New, and of the document's Join and New. -/
import Derived.Test.YtbaccghnneidgaaGreatLCtDo
namespace Go.Proofs.YtbaccghnneidgaaGreat
set_option maxRecDepth 100000
open Go.ChangeShapes Go.WideShapes Go.ChangeAt Go.RowKit

set_option maxRecDepth 100000 in
set_option maxHeartbeats 1000000 in
theorem cjoin_any (A B : List Int) (hA : A.length = 579) (hB : B.length = 579) (w : World) :
    Calls Tryz.prog 117 #[.agg (vals A).toArray, .agg (vals B).toArray] w fun e w' => e = .returned (.tuple #[.agg (vals (cjA A B)).toArray, .int .i64 (cjE A B)]) ∧ Below w.heap.size w w' := by
  have HL1 := Lib.hid (show (seg A 3 288).length = 288 from dnR_length hA)
  have HL2 := Lib.hid (show (seg B 3 288).length = 288 from dnR_length hB)
  have HL3 := Lib.hid (show (seg A 291 288).length = 288 from upR_length hA)
  have HL4 := Lib.hid (show (seg B 291 288).length = 288 from upR_length hB)
  have HJ1 := Lib.hid (jl_length HL1.out HL2.out)
  have HJ2 := Lib.hid (jl_length HL3.out HL4.out)
  have HQ := Lib.hid (show seg (splice A 3 (joinL (seg A 3 288) (seg B 3 288))) 291 288 = seg A 291 288 from splice_seg_apart (by have := HJ1.out; omega) (by omega) (by have := HJ1.out; omega))
  have HA := Lib.hid hA; clear hA
  have HB := Lib.hid hB; clear hB
  have HK := Lib.hid (KeepR.start w)
  obtain ⟨p0, hp0⟩ : ∃ p, A.getD 0 0 = p := ⟨_, rfl⟩
  obtain ⟨q0, hq0⟩ : ∃ q, B.getD 0 0 = q := ⟨_, rfl⟩
  obtain ⟨p1, hp1⟩ : ∃ p, A.getD 1 0 = p := ⟨_, rfl⟩
  obtain ⟨q1, hq1⟩ : ∃ q, B.getD 1 0 = q := ⟨_, rfl⟩
  obtain ⟨p2, hp2⟩ : ∃ p, A.getD 2 0 = p := ⟨_, rfl⟩
  obtain ⟨q2, hq2⟩ : ∃ q, B.getD 2 0 = q := ⟨_, rfl⟩
  have hsb : sameB A B = ((p0 == q0) && (p1 == q1) && (p2 == q2)) := by simp only [sameB, hp0, hp1, hp2, hq0, hq1, hq2]
  have P0 := Lib.hid hp0; clear hp0
  have Q0 := Lib.hid hq0; clear hq0
  have P1 := Lib.hid hp1; clear hp1
  have Q1 := Lib.hid hq1; clear hq1
  have P2 := Lib.hid hp2; clear hp2
  have Q2 := Lib.hid hq2; clear hq2
  cases t0 : (p0 == q0) with
  | false =>
    have n0 : (p0 != q0) = true := by simp only [bne, t0, Bool.not_false]
    obtain ⟨e1, e2⟩ := cj_no (A := A) (B := B) (by rw [hsb]; simp only [t0, Bool.false_and])
    rw [e1, e2]; clear e1 e2
    go_enter Tryz.func117, Tryz.ntmps117
    go_wp2_with (first
      | (with_reducible refine box_new (R := A) HK.out rfl _ rfl rfl ?_; intro ba u hk hb; clear hb; clear HK; have HK := Lib.hid hk; clear hk)
      | (with_reducible refine box_new (R := B) HK.out rfl _ rfl rfl ?_; intro bb u hk hb; clear hb; clear HK; have HK := Lib.hid hk; clear hk)
      | (with_reducible refine alloc_zero HK.out 579 c_zero rfl rfl ?_; intro br u hn hk hb; clear hn hb; clear HK; have HK := Lib.hid hk; clear hk)
      | (with_reducible refine build_zero 579 c_build rfl rfl ?_)
      | (with_reducible refine load_val HK.out 2 rfl _ rfl rfl rfl P0.out (by have := HA.out; omega) ?_)
      | (with_reducible refine load_val HK.out 1 rfl _ rfl rfl rfl Q0.out (by have := HB.out; omega) ?_)
      | (with_reducible refine load_val HK.out 2 rfl _ rfl rfl rfl P1.out (by have := HA.out; omega) ?_)
      | (with_reducible refine load_val HK.out 1 rfl _ rfl rfl rfl Q1.out (by have := HB.out; omega) ?_)
      | (with_reducible refine load_val HK.out 2 rfl _ rfl rfl rfl P2.out (by have := HA.out; omega) ?_)
      | (with_reducible refine load_val HK.out 1 rfl _ rfl rfl rfl Q2.out (by have := HB.out; omega) ?_)
      | (with_reducible refine load_val_want HK.out 2 _ rfl rfl rfl rfl P0.out (by have := HA.out; omega) ?_)
      | (with_reducible refine load_val_want HK.out 1 _ rfl rfl rfl rfl Q0.out (by have := HB.out; omega) ?_)
      | (with_reducible refine load_val_want HK.out 2 _ rfl rfl rfl rfl P1.out (by have := HA.out; omega) ?_)
      | (with_reducible refine load_val_want HK.out 1 _ rfl rfl rfl rfl Q1.out (by have := HB.out; omega) ?_)
      | (with_reducible refine load_val_want HK.out 2 _ rfl rfl rfl rfl P2.out (by have := HA.out; omega) ?_)
      | (with_reducible refine load_val_want HK.out 1 _ rfl rfl rfl rfl Q2.out (by have := HB.out; omega) ?_)
      | (with_reducible refine store_all HK.out 0 579 c_info rfl rfl _ _ rfl rfl rfl rfl (zer_length 579) (zer_length 579) ?_; intro u hk hs; clear hs; simp only [List.set_cons_zero] at hk; clear HK; have HK := Lib.hid hk; clear hk))
    exact bodyPost_ret (results_2 rfl Tryz.underlying28 rfl c_info _ HK.out 0 _ rfl rfl rfl (zer_length 579)) rfl ⟨rfl, HK.out.bel⟩
  | true =>
    have n0 : (p0 != q0) = false := by simp only [bne, t0, Bool.not_true]
    cases t1 : (p1 == q1) with
    | false =>
      have n1 : (p1 != q1) = true := by simp only [bne, t1, Bool.not_false]
      obtain ⟨e1, e2⟩ := cj_no (A := A) (B := B) (by rw [hsb]; simp only [t0, t1, Bool.false_and, Bool.and_false])
      rw [e1, e2]; clear e1 e2
      go_enter Tryz.func117, Tryz.ntmps117
      go_wp2_with (first
        | (with_reducible refine box_new (R := A) HK.out rfl _ rfl rfl ?_; intro ba u hk hb; clear hb; clear HK; have HK := Lib.hid hk; clear hk)
        | (with_reducible refine box_new (R := B) HK.out rfl _ rfl rfl ?_; intro bb u hk hb; clear hb; clear HK; have HK := Lib.hid hk; clear hk)
        | (with_reducible refine alloc_zero HK.out 579 c_zero rfl rfl ?_; intro br u hn hk hb; clear hn hb; clear HK; have HK := Lib.hid hk; clear hk)
        | (with_reducible refine build_zero 579 c_build rfl rfl ?_)
        | (with_reducible refine load_val HK.out 2 rfl _ rfl rfl rfl P0.out (by have := HA.out; omega) ?_)
        | (with_reducible refine load_val HK.out 1 rfl _ rfl rfl rfl Q0.out (by have := HB.out; omega) ?_)
        | (with_reducible refine load_val HK.out 2 rfl _ rfl rfl rfl P1.out (by have := HA.out; omega) ?_)
        | (with_reducible refine load_val HK.out 1 rfl _ rfl rfl rfl Q1.out (by have := HB.out; omega) ?_)
        | (with_reducible refine load_val HK.out 2 rfl _ rfl rfl rfl P2.out (by have := HA.out; omega) ?_)
        | (with_reducible refine load_val HK.out 1 rfl _ rfl rfl rfl Q2.out (by have := HB.out; omega) ?_)
        | (with_reducible refine load_val_want HK.out 2 _ rfl rfl rfl rfl P0.out (by have := HA.out; omega) ?_)
        | (with_reducible refine load_val_want HK.out 1 _ rfl rfl rfl rfl Q0.out (by have := HB.out; omega) ?_)
        | (with_reducible refine load_val_want HK.out 2 _ rfl rfl rfl rfl P1.out (by have := HA.out; omega) ?_)
        | (with_reducible refine load_val_want HK.out 1 _ rfl rfl rfl rfl Q1.out (by have := HB.out; omega) ?_)
        | (with_reducible refine load_val_want HK.out 2 _ rfl rfl rfl rfl P2.out (by have := HA.out; omega) ?_)
        | (with_reducible refine load_val_want HK.out 1 _ rfl rfl rfl rfl Q2.out (by have := HB.out; omega) ?_)
        | (with_reducible refine store_all HK.out 0 579 c_info rfl rfl _ _ rfl rfl rfl rfl (zer_length 579) (zer_length 579) ?_; intro u hk hs; clear hs; simp only [List.set_cons_zero] at hk; clear HK; have HK := Lib.hid hk; clear hk))
      exact bodyPost_ret (results_2 rfl Tryz.underlying28 rfl c_info _ HK.out 0 _ rfl rfl rfl (zer_length 579)) rfl ⟨rfl, HK.out.bel⟩
    | true =>
      have n1 : (p1 != q1) = false := by simp only [bne, t1, Bool.not_true]
      cases t2 : (p2 == q2) with
      | false =>
        have n2 : (p2 != q2) = true := by simp only [bne, t2, Bool.not_false]
        obtain ⟨e1, e2⟩ := cj_no (A := A) (B := B) (by rw [hsb]; simp only [t0, t1, t2, Bool.true_and, Bool.and_false])
        rw [e1, e2]; clear e1 e2
        go_enter Tryz.func117, Tryz.ntmps117
        go_wp2_with (first
          | (with_reducible refine box_new (R := A) HK.out rfl _ rfl rfl ?_; intro ba u hk hb; clear hb; clear HK; have HK := Lib.hid hk; clear hk)
          | (with_reducible refine box_new (R := B) HK.out rfl _ rfl rfl ?_; intro bb u hk hb; clear hb; clear HK; have HK := Lib.hid hk; clear hk)
          | (with_reducible refine alloc_zero HK.out 579 c_zero rfl rfl ?_; intro br u hn hk hb; clear hn hb; clear HK; have HK := Lib.hid hk; clear hk)
          | (with_reducible refine build_zero 579 c_build rfl rfl ?_)
          | (with_reducible refine load_val HK.out 2 rfl _ rfl rfl rfl P0.out (by have := HA.out; omega) ?_)
          | (with_reducible refine load_val HK.out 1 rfl _ rfl rfl rfl Q0.out (by have := HB.out; omega) ?_)
          | (with_reducible refine load_val HK.out 2 rfl _ rfl rfl rfl P1.out (by have := HA.out; omega) ?_)
          | (with_reducible refine load_val HK.out 1 rfl _ rfl rfl rfl Q1.out (by have := HB.out; omega) ?_)
          | (with_reducible refine load_val HK.out 2 rfl _ rfl rfl rfl P2.out (by have := HA.out; omega) ?_)
          | (with_reducible refine load_val HK.out 1 rfl _ rfl rfl rfl Q2.out (by have := HB.out; omega) ?_)
          | (with_reducible refine load_val_want HK.out 2 _ rfl rfl rfl rfl P0.out (by have := HA.out; omega) ?_)
          | (with_reducible refine load_val_want HK.out 1 _ rfl rfl rfl rfl Q0.out (by have := HB.out; omega) ?_)
          | (with_reducible refine load_val_want HK.out 2 _ rfl rfl rfl rfl P1.out (by have := HA.out; omega) ?_)
          | (with_reducible refine load_val_want HK.out 1 _ rfl rfl rfl rfl Q1.out (by have := HB.out; omega) ?_)
          | (with_reducible refine load_val_want HK.out 2 _ rfl rfl rfl rfl P2.out (by have := HA.out; omega) ?_)
          | (with_reducible refine load_val_want HK.out 1 _ rfl rfl rfl rfl Q2.out (by have := HB.out; omega) ?_)
          | (with_reducible refine store_all HK.out 0 579 c_info rfl rfl _ _ rfl rfl rfl rfl (zer_length 579) (zer_length 579) ?_; intro u hk hs; clear hs; simp only [List.set_cons_zero] at hk; clear HK; have HK := Lib.hid hk; clear hk))
        exact bodyPost_ret (results_2 rfl Tryz.underlying28 rfl c_info _ HK.out 0 _ rfl rfl rfl (zer_length 579)) rfl ⟨rfl, HK.out.bel⟩
      | true =>
        have n2 : (p2 != q2) = false := by simp only [bne, t2, Bool.not_true]
        obtain ⟨e1, e2⟩ := cj_yes (A := A) (B := B) (by rw [hsb]; simp only [t0, t1, t2, Bool.and_self])
        rw [e1, e2]; clear e1 e2
        go_enter Tryz.func117, Tryz.ntmps117
        go_wp2_with (first
          | (with_reducible refine box_new (R := A) HK.out rfl _ rfl rfl ?_; intro ba u hk hb; clear hb; clear HK; have HK := Lib.hid hk; clear hk)
          | (with_reducible refine box_new (R := B) HK.out rfl _ rfl rfl ?_; intro bb u hk hb; clear hb; clear HK; have HK := Lib.hid hk; clear hk)
          | (with_reducible refine alloc_zero HK.out 579 c_zero rfl rfl ?_; intro br u hn hk hb; clear hn hb; clear HK; have HK := Lib.hid hk; clear hk)
          | (with_reducible refine build_zero 579 c_build rfl rfl ?_)
          | (with_reducible refine load_val HK.out 2 rfl _ rfl rfl rfl P0.out (by have := HA.out; omega) ?_)
          | (with_reducible refine load_val HK.out 1 rfl _ rfl rfl rfl Q0.out (by have := HB.out; omega) ?_)
          | (with_reducible refine load_val HK.out 2 rfl _ rfl rfl rfl P1.out (by have := HA.out; omega) ?_)
          | (with_reducible refine load_val HK.out 1 rfl _ rfl rfl rfl Q1.out (by have := HB.out; omega) ?_)
          | (with_reducible refine load_val HK.out 2 rfl _ rfl rfl rfl P2.out (by have := HA.out; omega) ?_)
          | (with_reducible refine load_val HK.out 1 rfl _ rfl rfl rfl Q2.out (by have := HB.out; omega) ?_)
          | (with_reducible refine load_val_want HK.out 2 _ rfl rfl rfl rfl P0.out (by have := HA.out; omega) ?_)
          | (with_reducible refine load_val_want HK.out 1 _ rfl rfl rfl rfl Q0.out (by have := HB.out; omega) ?_)
          | (with_reducible refine load_val_want HK.out 2 _ rfl rfl rfl rfl P1.out (by have := HA.out; omega) ?_)
          | (with_reducible refine load_val_want HK.out 1 _ rfl rfl rfl rfl Q1.out (by have := HB.out; omega) ?_)
          | (with_reducible refine load_val_want HK.out 2 _ rfl rfl rfl rfl P2.out (by have := HA.out; omega) ?_)
          | (with_reducible refine load_val_want HK.out 1 _ rfl rfl rfl rfl Q2.out (by have := HB.out; omega) ?_)
          | (with_reducible refine load_part HK.out 2 288 Tryz.underlying26 rfl r_info rfl _ rfl rfl rfl (by have := HA.out; omega) ?_)
          | (with_reducible refine load_part HK.out 2 288 Tryz.underlying26 rfl r_info rfl _ rfl rfl rfl (by rw [splice_length]; have := HA.out; omega) ?_; rw [HQ.out])
          | (with_reducible refine load_part HK.out 1 288 Tryz.underlying26 rfl r_info rfl _ rfl rfl rfl (by have := HB.out; omega) ?_)
          | (go_at_call 146; (with_reducible refine (join_r (seg A 3 288) (seg B 3 288) HL1.out HL2.out _).mono ?_); rintro e u ⟨rfl, hb⟩; have hk := HK.out.call hb; clear hb; clear HK; have HK := Lib.hid hk; clear hk)
          | (go_at_call 146; (with_reducible refine (join_r (seg A 291 288) (seg B 291 288) HL3.out HL4.out _).mono ?_); rintro e u ⟨rfl, hb⟩; have hk := HK.out.call hb; clear hb; clear HK; have HK := Lib.hid hk; clear hk)
          | (with_reducible refine store_part HK.out 2 288 r_info rfl rfl _ _ rfl rfl rfl rfl HJ1.out (by have := HA.out; omega) ?_; intro u hk hs; clear hs; simp only [List.set_cons_zero, List.set_cons_succ] at hk; clear HK; have HK := Lib.hid hk; clear hk)
          | (with_reducible refine store_part HK.out 2 288 r_info rfl rfl _ _ rfl rfl rfl rfl HJ2.out (by rw [splice_length]; have := HA.out; omega) ?_; intro u hk hs; clear hs; simp only [List.set_cons_zero, List.set_cons_succ] at hk; clear HK; have HK := Lib.hid hk; clear hk)
          | (with_reducible refine load_all HK.out 2 579 Tryz.underlying28 rfl c_info rfl _ rfl rfl rfl (by rw [splice_length, splice_length]; exact HA.out) ?_)
          | (with_reducible refine store_all HK.out 0 579 c_info rfl rfl _ _ rfl rfl rfl rfl (by rw [splice_length, splice_length]; exact HA.out) (zer_length 579) ?_; intro u hk hs; clear hs; simp only [List.set_cons_zero] at hk; clear HK; have HK := Lib.hid hk; clear hk))
        exact bodyPost_ret (results_2 rfl Tryz.underlying28 rfl c_info _ HK.out 0 _ rfl rfl rfl (by rw [splice_length, splice_length]; exact HA.out)) rfl ⟨rfl, HK.out.bel⟩
set_option maxRecDepth 100000 in
theorem room_any (C : List Int) (hC : C.length = 579) (k : Int) (w : World) :
    Calls Tryz.prog 42 #[.agg (vals C).toArray, .int .i64 k] w fun e w' => e = .returned (.tuple #[.int .i64 (freeN (dnR C) k), .int .i64 (freeN (upR C) k)]) ∧ Below w.heap.size w w' := by
  have HL1 := Lib.hid (show (seg C 3 288).length = 288 from dnR_length hC)
  have HL2 := Lib.hid (show (seg C 291 288).length = 288 from upR_length hC)
  have HC := Lib.hid hC; clear hC
  have HK := Lib.hid (KeepR.start w)
  go_enter Tryz.func42, Tryz.ntmps42
  go_wp2_with (first
    | (with_reducible refine box_new (R := C) HK.out rfl _ rfl rfl ?_; intro bc u hk hb; clear hb; clear HK; have HK := Lib.hid hk; clear hk)
    | (with_reducible refine load_part HK.out 0 288 Tryz.underlying26 rfl r_info rfl _ rfl rfl rfl (by have := HC.out; omega) ?_)
    | (go_at_call 89; (with_reducible refine (free_any (seg C 3 288) HL1.out _ _).mono ?_); rintro e u ⟨rfl, hb⟩; have hk := HK.out.call hb; clear hb; clear HK; have HK := Lib.hid hk; clear hk)
    | (go_at_call 89; (with_reducible refine (free_any (seg C 291 288) HL2.out _ _).mono ?_); rintro e u ⟨rfl, hb⟩; have hk := HK.out.call hb; clear hb; clear HK; have HK := Lib.hid hk; clear hk))
  go_ret2
  exact ⟨rfl, HK.out.bel⟩
end Go.Proofs.YtbaccghnneidgaaGreat
