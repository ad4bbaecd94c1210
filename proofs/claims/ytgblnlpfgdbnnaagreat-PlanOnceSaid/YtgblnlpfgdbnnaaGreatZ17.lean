/- A contract of the document's Right. -/
import Derived.Test.YtgblnlpfgdbnnaaGreatZ03
namespace Go.Proofs.YtgblnlpfgdbnnaaGreat
set_option maxRecDepth 100000
open Go.ChangeShapes Go.WideShapes Go.ChangeAt Go.RowKit

set_option maxRecDepth 100000 in
set_option maxHeartbeats 4000000 in
theorem rcright_any (C : List Int) (hC : C.length = 579) (w : World) :
    Calls Tryz.prog 69 #[.agg (vals C).toArray] w fun e w' => e = .returned (.bool (rightC C)) ∧ Below w.heap.size w w' := by
  have HK := Lib.hid (KeepR.start w)
  rw [right_ref]
  have L1 := Lib.hid (seg_length (R := C) (o := 3) (n := 288) (by omega))
  have L2 := Lib.hid (seg_length (R := C) (o := 291) (n := 288) (by omega))
  have V1 := Lib.hid (seg_length (R := C) (o := 3) (n := 16) (by omega))
  have V2 := Lib.hid (seg_length (R := C) (o := 307) (n := 16) (by omega))
  have V3 := Lib.hid (seg_length (R := C) (o := 291) (n := 16) (by omega))
  have V4 := Lib.hid (seg_length (R := C) (o := 19) (n := 16) (by omega))
  obtain ⟨p0, hp0⟩ : ∃ p, C.getD 0 0 = p := ⟨_, rfl⟩
  obtain ⟨p1, hp1⟩ : ∃ p, C.getD 1 0 = p := ⟨_, rfl⟩
  obtain ⟨p2, hp2⟩ : ∃ p, C.getD 2 0 = p := ⟨_, rfl⟩
  rw [hp0, hp1, hp2]
  have hr1 := rright_r (seg C 3 288) L1.out
  have hr2 := rright_r (seg C 291 288) L2.out
  have hs1 := rsumv_any (seg C 3 16) V1.out
  have hs2 := rsumv_any (seg C 307 16) V2.out
  have hs3 := rsumv_any (seg C 291 16) V3.out
  have hs4 := rsumv_any (seg C 19 16) V4.out
  have ha1 := radd_any (p0 - p1) (sumN (seg C 307 16))
  have ha2 := radd_any (p2 - p0) (sumN (seg C 19 16))
  have P0 := Lib.hid hp0; clear hp0
  have P1 := Lib.hid hp1; clear hp1
  have P2 := Lib.hid hp2; clear hp2
  have HC := Lib.hid hC; clear hC
  unfold rcovB
  generalize addE (p0 - p1) (sumN (seg C 307 16)) = g1 at ha1 ⊢
  generalize addN (p0 - p1) (sumN (seg C 307 16)) = y1 at ha1 ⊢
  generalize addE (p2 - p0) (sumN (seg C 19 16)) = g2 at ha2 ⊢
  generalize addN (p2 - p0) (sumN (seg C 19 16)) = y2 at ha2 ⊢
  generalize sumE (seg C 3 16) = e1 at hs1 ⊢
  generalize sumN (seg C 3 16) = n1 at hs1 ⊢
  generalize sumE (seg C 307 16) = e2 at hs2 ⊢
  generalize sumN (seg C 307 16) = n2 at hs2 ha1 ⊢
  generalize sumE (seg C 291 16) = e3 at hs3 ⊢
  generalize sumN (seg C 291 16) = n3 at hs3 ⊢
  generalize sumE (seg C 19 16) = e4 at hs4 ⊢
  generalize sumN (seg C 19 16) = n4 at hs4 ha2 ⊢
  generalize rightsB (seg C 3 288) = x1 at hr1 ⊢
  generalize rightsB (seg C 291 288) = x2 at hr2 ⊢
  cases i0 : isB p0 with
  | false =>
    simp only [Bool.false_and]
    go_enter Tryz.func69, Tryz.ntmps69
    go_wp2_with (first
      | (with_reducible refine box_new (R := C) HK.out rfl _ rfl rfl ?_; intro bc u hk hb; clear hb; clear HK; have HK := Lib.hid hk; clear hk)
      | (with_reducible refine load_val HK.out 0 rfl _ rfl rfl rfl P0.out (by have := HC.out; omega) ?_)
      | (with_reducible refine load_val HK.out 0 rfl _ rfl rfl rfl P1.out (by have := HC.out; omega) ?_)
      | (with_reducible refine load_val HK.out 0 rfl _ rfl rfl rfl P2.out (by have := HC.out; omega) ?_)
      | (with_reducible refine load_val_want HK.out 0 _ rfl rfl rfl rfl P0.out (by have := HC.out; omega) ?_)
      | (with_reducible refine load_val_want HK.out 0 _ rfl rfl rfl rfl P1.out (by have := HC.out; omega) ?_)
      | (with_reducible refine load_val_want HK.out 0 _ rfl rfl rfl rfl P2.out (by have := HC.out; omega) ?_)
      | (go_at_call 40; (with_reducible refine (ris_any _ _).mono ?_); rintro e u ⟨rfl, rfl⟩)
      | (with_reducible refine load_want HK.out 0 288 Tryz.underlying36 rfl r_info _ rfl rfl rfl rfl (by have := HC.out; omega) ?_)
      | (go_at_call 108; (with_reducible refine (hr1 _).mono ?_); rintro e u ⟨rfl, hb⟩; have hk := HK.out.call hb; clear hb; clear HK; have HK := Lib.hid hk; clear hk)
      | (go_at_call 108; (with_reducible refine (hr2 _).mono ?_); rintro e u ⟨rfl, hb⟩; have hk := HK.out.call hb; clear hb; clear HK; have HK := Lib.hid hk; clear hk))
    go_ret
    exact ⟨rfl, HK.out.bel⟩
  | true =>
    cases i1 : isB p1 with
    | false =>
      simp only [Bool.and_false, Bool.false_and]
      go_enter Tryz.func69, Tryz.ntmps69
      go_wp2_with (first
        | (with_reducible refine box_new (R := C) HK.out rfl _ rfl rfl ?_; intro bc u hk hb; clear hb; clear HK; have HK := Lib.hid hk; clear hk)
        | (with_reducible refine load_val HK.out 0 rfl _ rfl rfl rfl P0.out (by have := HC.out; omega) ?_)
        | (with_reducible refine load_val HK.out 0 rfl _ rfl rfl rfl P1.out (by have := HC.out; omega) ?_)
        | (with_reducible refine load_val HK.out 0 rfl _ rfl rfl rfl P2.out (by have := HC.out; omega) ?_)
        | (with_reducible refine load_val_want HK.out 0 _ rfl rfl rfl rfl P0.out (by have := HC.out; omega) ?_)
        | (with_reducible refine load_val_want HK.out 0 _ rfl rfl rfl rfl P1.out (by have := HC.out; omega) ?_)
        | (with_reducible refine load_val_want HK.out 0 _ rfl rfl rfl rfl P2.out (by have := HC.out; omega) ?_)
        | (go_at_call 40; (with_reducible refine (ris_any _ _).mono ?_); rintro e u ⟨rfl, rfl⟩)
        | (with_reducible refine load_want HK.out 0 288 Tryz.underlying36 rfl r_info _ rfl rfl rfl rfl (by have := HC.out; omega) ?_)
        | (go_at_call 108; (with_reducible refine (hr1 _).mono ?_); rintro e u ⟨rfl, hb⟩; have hk := HK.out.call hb; clear hb; clear HK; have HK := Lib.hid hk; clear hk)
        | (go_at_call 108; (with_reducible refine (hr2 _).mono ?_); rintro e u ⟨rfl, hb⟩; have hk := HK.out.call hb; clear hb; clear HK; have HK := Lib.hid hk; clear hk))
      go_ret
      exact ⟨rfl, HK.out.bel⟩
    | true =>
      cases i2 : isB p2 with
      | false =>
        simp only [Bool.and_false, Bool.false_and]
        go_enter Tryz.func69, Tryz.ntmps69
        go_wp2_with (first
          | (with_reducible refine box_new (R := C) HK.out rfl _ rfl rfl ?_; intro bc u hk hb; clear hb; clear HK; have HK := Lib.hid hk; clear hk)
          | (with_reducible refine load_val HK.out 0 rfl _ rfl rfl rfl P0.out (by have := HC.out; omega) ?_)
          | (with_reducible refine load_val HK.out 0 rfl _ rfl rfl rfl P1.out (by have := HC.out; omega) ?_)
          | (with_reducible refine load_val HK.out 0 rfl _ rfl rfl rfl P2.out (by have := HC.out; omega) ?_)
          | (with_reducible refine load_val_want HK.out 0 _ rfl rfl rfl rfl P0.out (by have := HC.out; omega) ?_)
          | (with_reducible refine load_val_want HK.out 0 _ rfl rfl rfl rfl P1.out (by have := HC.out; omega) ?_)
          | (with_reducible refine load_val_want HK.out 0 _ rfl rfl rfl rfl P2.out (by have := HC.out; omega) ?_)
          | (go_at_call 40; (with_reducible refine (ris_any _ _).mono ?_); rintro e u ⟨rfl, rfl⟩)
          | (with_reducible refine load_want HK.out 0 288 Tryz.underlying36 rfl r_info _ rfl rfl rfl rfl (by have := HC.out; omega) ?_)
          | (go_at_call 108; (with_reducible refine (hr1 _).mono ?_); rintro e u ⟨rfl, hb⟩; have hk := HK.out.call hb; clear hb; clear HK; have HK := Lib.hid hk; clear hk)
          | (go_at_call 108; (with_reducible refine (hr2 _).mono ?_); rintro e u ⟨rfl, hb⟩; have hk := HK.out.call hb; clear hb; clear HK; have HK := Lib.hid hk; clear hk))
        go_ret
        exact ⟨rfl, HK.out.bel⟩
      | true =>
        by_cases c1 : p1 ≤ p0
        · rw [decide_eq_true c1]
          by_cases c2 : p0 ≤ p2
          · rw [decide_eq_true c2]
            have c1' : ¬ p0 < p1 := by omega
            have c2' : ¬ p2 < p0 := by omega
            clear c1 c2
            have D1 := Lib.hid (decide_eq_false c1'); have D2 := Lib.hid (decide_eq_false c2')
            obtain ⟨q0, q1⟩ := isB_iff.1 i0
            obtain ⟨q2, q3⟩ := isB_iff.1 i1
            obtain ⟨q4, q5⟩ := isB_iff.1 i2
            cases x1 with
            | false =>
              simp only [Bool.and_false, Bool.false_and]
              go_enter Tryz.func69, Tryz.ntmps69
              go_wp2_with (first
                | (with_reducible refine box_new (R := C) HK.out rfl _ rfl rfl ?_; intro bc u hk hb; clear hb; clear HK; have HK := Lib.hid hk; clear hk)
                | (with_reducible refine load_val HK.out 0 rfl _ rfl rfl rfl P0.out (by have := HC.out; omega) ?_)
                | (with_reducible refine load_val HK.out 0 rfl _ rfl rfl rfl P1.out (by have := HC.out; omega) ?_)
                | (with_reducible refine load_val HK.out 0 rfl _ rfl rfl rfl P2.out (by have := HC.out; omega) ?_)
                | (with_reducible refine load_val_want HK.out 0 _ rfl rfl rfl rfl P0.out (by have := HC.out; omega) ?_)
                | (with_reducible refine load_val_want HK.out 0 _ rfl rfl rfl rfl P1.out (by have := HC.out; omega) ?_)
                | (with_reducible refine load_val_want HK.out 0 _ rfl rfl rfl rfl P2.out (by have := HC.out; omega) ?_)
                | (with_reducible refine gtr_want D1.out _ _ _ rfl rfl rfl rfl ?_)
                | (with_reducible refine gtr_want D2.out _ _ _ rfl rfl rfl rfl ?_)
                | (go_at_call 40; (with_reducible refine (ris_any _ _).mono ?_); rintro e u ⟨rfl, rfl⟩)
                | (with_reducible refine load_want HK.out 0 288 Tryz.underlying36 rfl r_info _ rfl rfl rfl rfl (by have := HC.out; omega) ?_)
                | (go_at_call 108; (with_reducible refine (hr1 _).mono ?_); rintro e u ⟨rfl, hb⟩; have hk := HK.out.call hb; clear hb; clear HK; have HK := Lib.hid hk; clear hk)
                | (go_at_call 108; (with_reducible refine (hr2 _).mono ?_); rintro e u ⟨rfl, hb⟩; have hk := HK.out.call hb; clear hb; clear HK; have HK := Lib.hid hk; clear hk))
              go_ret
              exact ⟨rfl, HK.out.bel⟩
            | true =>
              cases x2 with
              | false =>
                simp only [Bool.and_false, Bool.false_and]
                go_enter Tryz.func69, Tryz.ntmps69
                go_wp2_with (first
                  | (with_reducible refine box_new (R := C) HK.out rfl _ rfl rfl ?_; intro bc u hk hb; clear hb; clear HK; have HK := Lib.hid hk; clear hk)
                  | (with_reducible refine load_val HK.out 0 rfl _ rfl rfl rfl P0.out (by have := HC.out; omega) ?_)
                  | (with_reducible refine load_val HK.out 0 rfl _ rfl rfl rfl P1.out (by have := HC.out; omega) ?_)
                  | (with_reducible refine load_val HK.out 0 rfl _ rfl rfl rfl P2.out (by have := HC.out; omega) ?_)
                  | (with_reducible refine load_val_want HK.out 0 _ rfl rfl rfl rfl P0.out (by have := HC.out; omega) ?_)
                  | (with_reducible refine load_val_want HK.out 0 _ rfl rfl rfl rfl P1.out (by have := HC.out; omega) ?_)
                  | (with_reducible refine load_val_want HK.out 0 _ rfl rfl rfl rfl P2.out (by have := HC.out; omega) ?_)
                  | (with_reducible refine gtr_want D1.out _ _ _ rfl rfl rfl rfl ?_)
                  | (with_reducible refine gtr_want D2.out _ _ _ rfl rfl rfl rfl ?_)
                  | (go_at_call 40; (with_reducible refine (ris_any _ _).mono ?_); rintro e u ⟨rfl, rfl⟩)
                  | (with_reducible refine load_want HK.out 0 288 Tryz.underlying36 rfl r_info _ rfl rfl rfl rfl (by have := HC.out; omega) ?_)
                  | (go_at_call 108; (with_reducible refine (hr1 _).mono ?_); rintro e u ⟨rfl, hb⟩; have hk := HK.out.call hb; clear hb; clear HK; have HK := Lib.hid hk; clear hk)
                  | (go_at_call 108; (with_reducible refine (hr2 _).mono ?_); rintro e u ⟨rfl, hb⟩; have hk := HK.out.call hb; clear hb; clear HK; have HK := Lib.hid hk; clear hk))
                go_ret
                exact ⟨rfl, HK.out.bel⟩
              | true =>
                cases k0 : (e1 == 0) with
                | false =>
                  simp only [Bool.and_true, Bool.and_false, Bool.false_and]
                  go_enter Tryz.func69, Tryz.ntmps69
                  go_wp2_with (first
                    | (with_reducible refine box_new (R := C) HK.out rfl _ rfl rfl ?_; intro bc u hk hb; clear hb; clear HK; have HK := Lib.hid hk; clear hk)
                    | (with_reducible refine load_val HK.out 0 rfl _ rfl rfl rfl P0.out (by have := HC.out; omega) ?_)
                    | (with_reducible refine load_val HK.out 0 rfl _ rfl rfl rfl P1.out (by have := HC.out; omega) ?_)
                    | (with_reducible refine load_val HK.out 0 rfl _ rfl rfl rfl P2.out (by have := HC.out; omega) ?_)
                    | (with_reducible refine load_val_want HK.out 0 _ rfl rfl rfl rfl P0.out (by have := HC.out; omega) ?_)
                    | (with_reducible refine load_val_want HK.out 0 _ rfl rfl rfl rfl P1.out (by have := HC.out; omega) ?_)
                    | (with_reducible refine load_val_want HK.out 0 _ rfl rfl rfl rfl P2.out (by have := HC.out; omega) ?_)
                    | (with_reducible refine gtr_want D1.out _ _ _ rfl rfl rfl rfl ?_)
                    | (with_reducible refine gtr_want D2.out _ _ _ rfl rfl rfl rfl ?_)
                    | (go_at_call 40; (with_reducible refine (ris_any _ _).mono ?_); rintro e u ⟨rfl, rfl⟩)
                    | (with_reducible refine load_want HK.out 0 288 Tryz.underlying36 rfl r_info _ rfl rfl rfl rfl (by have := HC.out; omega) ?_)
                    | (go_at_call 108; (with_reducible refine (hr1 _).mono ?_); rintro e u ⟨rfl, hb⟩; have hk := HK.out.call hb; clear hb; clear HK; have HK := Lib.hid hk; clear hk)
                    | (go_at_call 108; (with_reducible refine (hr2 _).mono ?_); rintro e u ⟨rfl, hb⟩; have hk := HK.out.call hb; clear hb; clear HK; have HK := Lib.hid hk; clear hk)
                    | (with_reducible refine load_part HK.out 0 16 Tryz.underlying33 rfl vec_info rfl _ rfl rfl rfl (by have := HC.out; omega) ?_)
                    | (go_at_call 109; (with_reducible refine (hs1 _).mono ?_); rintro e u ⟨rfl, hb⟩; have hk := HK.out.call hb; clear hb; clear HK; have HK := Lib.hid hk; clear hk)
                    | (go_at_call 109; (with_reducible refine (hs2 _).mono ?_); rintro e u ⟨rfl, hb⟩; have hk := HK.out.call hb; clear hb; clear HK; have HK := Lib.hid hk; clear hk)
                    | (go_at_call 109; (with_reducible refine (hs3 _).mono ?_); rintro e u ⟨rfl, hb⟩; have hk := HK.out.call hb; clear hb; clear HK; have HK := Lib.hid hk; clear hk)
                    | (go_at_call 109; (with_reducible refine (hs4 _).mono ?_); rintro e u ⟨rfl, hb⟩; have hk := HK.out.call hb; clear hb; clear HK; have HK := Lib.hid hk; clear hk)
                    | (go_at_call 65; (with_reducible refine (ha1 _).mono ?_); rintro e u ⟨rfl, rfl⟩)
                    | (go_at_call 65; (with_reducible refine (ha2 _).mono ?_); rintro e u ⟨rfl, rfl⟩))
                  go_ret
                  first
                    | exact ⟨rfl, HK.out.bel⟩
                    | exact ⟨by simp only [k0], HK.out.bel⟩
                    | exact ⟨by simp [k0], HK.out.bel⟩
                | true =>
                  cases k1 : (e2 == 0) with
                  | false =>
                    simp only [Bool.and_true, Bool.and_false, Bool.false_and]
                    go_enter Tryz.func69, Tryz.ntmps69
                    go_wp2_with (first
                      | (with_reducible refine box_new (R := C) HK.out rfl _ rfl rfl ?_; intro bc u hk hb; clear hb; clear HK; have HK := Lib.hid hk; clear hk)
                      | (with_reducible refine load_val HK.out 0 rfl _ rfl rfl rfl P0.out (by have := HC.out; omega) ?_)
                      | (with_reducible refine load_val HK.out 0 rfl _ rfl rfl rfl P1.out (by have := HC.out; omega) ?_)
                      | (with_reducible refine load_val HK.out 0 rfl _ rfl rfl rfl P2.out (by have := HC.out; omega) ?_)
                      | (with_reducible refine load_val_want HK.out 0 _ rfl rfl rfl rfl P0.out (by have := HC.out; omega) ?_)
                      | (with_reducible refine load_val_want HK.out 0 _ rfl rfl rfl rfl P1.out (by have := HC.out; omega) ?_)
                      | (with_reducible refine load_val_want HK.out 0 _ rfl rfl rfl rfl P2.out (by have := HC.out; omega) ?_)
                      | (with_reducible refine gtr_want D1.out _ _ _ rfl rfl rfl rfl ?_)
                      | (with_reducible refine gtr_want D2.out _ _ _ rfl rfl rfl rfl ?_)
                      | (go_at_call 40; (with_reducible refine (ris_any _ _).mono ?_); rintro e u ⟨rfl, rfl⟩)
                      | (with_reducible refine load_want HK.out 0 288 Tryz.underlying36 rfl r_info _ rfl rfl rfl rfl (by have := HC.out; omega) ?_)
                      | (go_at_call 108; (with_reducible refine (hr1 _).mono ?_); rintro e u ⟨rfl, hb⟩; have hk := HK.out.call hb; clear hb; clear HK; have HK := Lib.hid hk; clear hk)
                      | (go_at_call 108; (with_reducible refine (hr2 _).mono ?_); rintro e u ⟨rfl, hb⟩; have hk := HK.out.call hb; clear hb; clear HK; have HK := Lib.hid hk; clear hk)
                      | (with_reducible refine load_part HK.out 0 16 Tryz.underlying33 rfl vec_info rfl _ rfl rfl rfl (by have := HC.out; omega) ?_)
                      | (go_at_call 109; (with_reducible refine (hs1 _).mono ?_); rintro e u ⟨rfl, hb⟩; have hk := HK.out.call hb; clear hb; clear HK; have HK := Lib.hid hk; clear hk)
                      | (go_at_call 109; (with_reducible refine (hs2 _).mono ?_); rintro e u ⟨rfl, hb⟩; have hk := HK.out.call hb; clear hb; clear HK; have HK := Lib.hid hk; clear hk)
                      | (go_at_call 109; (with_reducible refine (hs3 _).mono ?_); rintro e u ⟨rfl, hb⟩; have hk := HK.out.call hb; clear hb; clear HK; have HK := Lib.hid hk; clear hk)
                      | (go_at_call 109; (with_reducible refine (hs4 _).mono ?_); rintro e u ⟨rfl, hb⟩; have hk := HK.out.call hb; clear hb; clear HK; have HK := Lib.hid hk; clear hk)
                      | (go_at_call 65; (with_reducible refine (ha1 _).mono ?_); rintro e u ⟨rfl, rfl⟩)
                      | (go_at_call 65; (with_reducible refine (ha2 _).mono ?_); rintro e u ⟨rfl, rfl⟩))
                    go_ret
                    first
                      | exact ⟨rfl, HK.out.bel⟩
                      | exact ⟨by simp only [k1], HK.out.bel⟩
                      | exact ⟨by simp [k1], HK.out.bel⟩
                  | true =>
                    cases k2 : (g1 == 0) with
                    | false =>
                      simp only [Bool.and_true, Bool.and_false, Bool.false_and]
                      go_enter Tryz.func69, Tryz.ntmps69
                      go_wp2_with (first
                        | (with_reducible refine box_new (R := C) HK.out rfl _ rfl rfl ?_; intro bc u hk hb; clear hb; clear HK; have HK := Lib.hid hk; clear hk)
                        | (with_reducible refine load_val HK.out 0 rfl _ rfl rfl rfl P0.out (by have := HC.out; omega) ?_)
                        | (with_reducible refine load_val HK.out 0 rfl _ rfl rfl rfl P1.out (by have := HC.out; omega) ?_)
                        | (with_reducible refine load_val HK.out 0 rfl _ rfl rfl rfl P2.out (by have := HC.out; omega) ?_)
                        | (with_reducible refine load_val_want HK.out 0 _ rfl rfl rfl rfl P0.out (by have := HC.out; omega) ?_)
                        | (with_reducible refine load_val_want HK.out 0 _ rfl rfl rfl rfl P1.out (by have := HC.out; omega) ?_)
                        | (with_reducible refine load_val_want HK.out 0 _ rfl rfl rfl rfl P2.out (by have := HC.out; omega) ?_)
                        | (with_reducible refine gtr_want D1.out _ _ _ rfl rfl rfl rfl ?_)
                        | (with_reducible refine gtr_want D2.out _ _ _ rfl rfl rfl rfl ?_)
                        | (go_at_call 40; (with_reducible refine (ris_any _ _).mono ?_); rintro e u ⟨rfl, rfl⟩)
                        | (with_reducible refine load_want HK.out 0 288 Tryz.underlying36 rfl r_info _ rfl rfl rfl rfl (by have := HC.out; omega) ?_)
                        | (go_at_call 108; (with_reducible refine (hr1 _).mono ?_); rintro e u ⟨rfl, hb⟩; have hk := HK.out.call hb; clear hb; clear HK; have HK := Lib.hid hk; clear hk)
                        | (go_at_call 108; (with_reducible refine (hr2 _).mono ?_); rintro e u ⟨rfl, hb⟩; have hk := HK.out.call hb; clear hb; clear HK; have HK := Lib.hid hk; clear hk)
                        | (with_reducible refine load_part HK.out 0 16 Tryz.underlying33 rfl vec_info rfl _ rfl rfl rfl (by have := HC.out; omega) ?_)
                        | (go_at_call 109; (with_reducible refine (hs1 _).mono ?_); rintro e u ⟨rfl, hb⟩; have hk := HK.out.call hb; clear hb; clear HK; have HK := Lib.hid hk; clear hk)
                        | (go_at_call 109; (with_reducible refine (hs2 _).mono ?_); rintro e u ⟨rfl, hb⟩; have hk := HK.out.call hb; clear hb; clear HK; have HK := Lib.hid hk; clear hk)
                        | (go_at_call 109; (with_reducible refine (hs3 _).mono ?_); rintro e u ⟨rfl, hb⟩; have hk := HK.out.call hb; clear hb; clear HK; have HK := Lib.hid hk; clear hk)
                        | (go_at_call 109; (with_reducible refine (hs4 _).mono ?_); rintro e u ⟨rfl, hb⟩; have hk := HK.out.call hb; clear hb; clear HK; have HK := Lib.hid hk; clear hk)
                        | (go_at_call 65; (with_reducible refine (ha1 _).mono ?_); rintro e u ⟨rfl, rfl⟩)
                        | (go_at_call 65; (with_reducible refine (ha2 _).mono ?_); rintro e u ⟨rfl, rfl⟩))
                      go_ret
                      first
                        | exact ⟨rfl, HK.out.bel⟩
                        | exact ⟨by simp only [k2], HK.out.bel⟩
                        | exact ⟨by simp [k2], HK.out.bel⟩
                    | true =>
                      cases k3 : (e3 == 0) with
                      | false =>
                        simp only [Bool.and_true, Bool.true_and, Bool.and_false, Bool.false_and]
                        go_enter Tryz.func69, Tryz.ntmps69
                        go_wp2_with (first
                          | (with_reducible refine box_new (R := C) HK.out rfl _ rfl rfl ?_; intro bc u hk hb; clear hb; clear HK; have HK := Lib.hid hk; clear hk)
                          | (with_reducible refine load_val HK.out 0 rfl _ rfl rfl rfl P0.out (by have := HC.out; omega) ?_)
                          | (with_reducible refine load_val HK.out 0 rfl _ rfl rfl rfl P1.out (by have := HC.out; omega) ?_)
                          | (with_reducible refine load_val HK.out 0 rfl _ rfl rfl rfl P2.out (by have := HC.out; omega) ?_)
                          | (with_reducible refine load_val_want HK.out 0 _ rfl rfl rfl rfl P0.out (by have := HC.out; omega) ?_)
                          | (with_reducible refine load_val_want HK.out 0 _ rfl rfl rfl rfl P1.out (by have := HC.out; omega) ?_)
                          | (with_reducible refine load_val_want HK.out 0 _ rfl rfl rfl rfl P2.out (by have := HC.out; omega) ?_)
                          | (with_reducible refine gtr_want D1.out _ _ _ rfl rfl rfl rfl ?_)
                          | (with_reducible refine gtr_want D2.out _ _ _ rfl rfl rfl rfl ?_)
                          | (go_at_call 40; (with_reducible refine (ris_any _ _).mono ?_); rintro e u ⟨rfl, rfl⟩)
                          | (with_reducible refine load_want HK.out 0 288 Tryz.underlying36 rfl r_info _ rfl rfl rfl rfl (by have := HC.out; omega) ?_)
                          | (go_at_call 108; (with_reducible refine (hr1 _).mono ?_); rintro e u ⟨rfl, hb⟩; have hk := HK.out.call hb; clear hb; clear HK; have HK := Lib.hid hk; clear hk)
                          | (go_at_call 108; (with_reducible refine (hr2 _).mono ?_); rintro e u ⟨rfl, hb⟩; have hk := HK.out.call hb; clear hb; clear HK; have HK := Lib.hid hk; clear hk)
                          | (with_reducible refine load_part HK.out 0 16 Tryz.underlying33 rfl vec_info rfl _ rfl rfl rfl (by have := HC.out; omega) ?_)
                          | (go_at_call 109; (with_reducible refine (hs1 _).mono ?_); rintro e u ⟨rfl, hb⟩; have hk := HK.out.call hb; clear hb; clear HK; have HK := Lib.hid hk; clear hk)
                          | (go_at_call 109; (with_reducible refine (hs2 _).mono ?_); rintro e u ⟨rfl, hb⟩; have hk := HK.out.call hb; clear hb; clear HK; have HK := Lib.hid hk; clear hk)
                          | (go_at_call 109; (with_reducible refine (hs3 _).mono ?_); rintro e u ⟨rfl, hb⟩; have hk := HK.out.call hb; clear hb; clear HK; have HK := Lib.hid hk; clear hk)
                          | (go_at_call 109; (with_reducible refine (hs4 _).mono ?_); rintro e u ⟨rfl, hb⟩; have hk := HK.out.call hb; clear hb; clear HK; have HK := Lib.hid hk; clear hk)
                          | (go_at_call 65; (with_reducible refine (ha1 _).mono ?_); rintro e u ⟨rfl, rfl⟩)
                          | (go_at_call 65; (with_reducible refine (ha2 _).mono ?_); rintro e u ⟨rfl, rfl⟩))
                        go_ret
                        first
                          | exact ⟨rfl, HK.out.bel⟩
                          | exact ⟨by simp only [k3], HK.out.bel⟩
                          | exact ⟨by simp [k3], HK.out.bel⟩
                      | true =>
                        cases k4 : (e4 == 0) with
                        | false =>
                          simp only [Bool.and_true, Bool.true_and, Bool.and_false, Bool.false_and]
                          go_enter Tryz.func69, Tryz.ntmps69
                          go_wp2_with (first
                            | (with_reducible refine box_new (R := C) HK.out rfl _ rfl rfl ?_; intro bc u hk hb; clear hb; clear HK; have HK := Lib.hid hk; clear hk)
                            | (with_reducible refine load_val HK.out 0 rfl _ rfl rfl rfl P0.out (by have := HC.out; omega) ?_)
                            | (with_reducible refine load_val HK.out 0 rfl _ rfl rfl rfl P1.out (by have := HC.out; omega) ?_)
                            | (with_reducible refine load_val HK.out 0 rfl _ rfl rfl rfl P2.out (by have := HC.out; omega) ?_)
                            | (with_reducible refine load_val_want HK.out 0 _ rfl rfl rfl rfl P0.out (by have := HC.out; omega) ?_)
                            | (with_reducible refine load_val_want HK.out 0 _ rfl rfl rfl rfl P1.out (by have := HC.out; omega) ?_)
                            | (with_reducible refine load_val_want HK.out 0 _ rfl rfl rfl rfl P2.out (by have := HC.out; omega) ?_)
                            | (with_reducible refine gtr_want D1.out _ _ _ rfl rfl rfl rfl ?_)
                            | (with_reducible refine gtr_want D2.out _ _ _ rfl rfl rfl rfl ?_)
                            | (go_at_call 40; (with_reducible refine (ris_any _ _).mono ?_); rintro e u ⟨rfl, rfl⟩)
                            | (with_reducible refine load_want HK.out 0 288 Tryz.underlying36 rfl r_info _ rfl rfl rfl rfl (by have := HC.out; omega) ?_)
                            | (go_at_call 108; (with_reducible refine (hr1 _).mono ?_); rintro e u ⟨rfl, hb⟩; have hk := HK.out.call hb; clear hb; clear HK; have HK := Lib.hid hk; clear hk)
                            | (go_at_call 108; (with_reducible refine (hr2 _).mono ?_); rintro e u ⟨rfl, hb⟩; have hk := HK.out.call hb; clear hb; clear HK; have HK := Lib.hid hk; clear hk)
                            | (with_reducible refine load_part HK.out 0 16 Tryz.underlying33 rfl vec_info rfl _ rfl rfl rfl (by have := HC.out; omega) ?_)
                            | (go_at_call 109; (with_reducible refine (hs1 _).mono ?_); rintro e u ⟨rfl, hb⟩; have hk := HK.out.call hb; clear hb; clear HK; have HK := Lib.hid hk; clear hk)
                            | (go_at_call 109; (with_reducible refine (hs2 _).mono ?_); rintro e u ⟨rfl, hb⟩; have hk := HK.out.call hb; clear hb; clear HK; have HK := Lib.hid hk; clear hk)
                            | (go_at_call 109; (with_reducible refine (hs3 _).mono ?_); rintro e u ⟨rfl, hb⟩; have hk := HK.out.call hb; clear hb; clear HK; have HK := Lib.hid hk; clear hk)
                            | (go_at_call 109; (with_reducible refine (hs4 _).mono ?_); rintro e u ⟨rfl, hb⟩; have hk := HK.out.call hb; clear hb; clear HK; have HK := Lib.hid hk; clear hk)
                            | (go_at_call 65; (with_reducible refine (ha1 _).mono ?_); rintro e u ⟨rfl, rfl⟩)
                            | (go_at_call 65; (with_reducible refine (ha2 _).mono ?_); rintro e u ⟨rfl, rfl⟩))
                          go_ret
                          first
                            | exact ⟨rfl, HK.out.bel⟩
                            | exact ⟨by simp only [k4], HK.out.bel⟩
                            | exact ⟨by simp [k4], HK.out.bel⟩
                        | true =>
                          cases k5 : (g2 == 0) with
                          | false =>
                            simp only [Bool.and_true, Bool.true_and, Bool.and_false, Bool.false_and]
                            go_enter Tryz.func69, Tryz.ntmps69
                            go_wp2_with (first
                              | (with_reducible refine box_new (R := C) HK.out rfl _ rfl rfl ?_; intro bc u hk hb; clear hb; clear HK; have HK := Lib.hid hk; clear hk)
                              | (with_reducible refine load_val HK.out 0 rfl _ rfl rfl rfl P0.out (by have := HC.out; omega) ?_)
                              | (with_reducible refine load_val HK.out 0 rfl _ rfl rfl rfl P1.out (by have := HC.out; omega) ?_)
                              | (with_reducible refine load_val HK.out 0 rfl _ rfl rfl rfl P2.out (by have := HC.out; omega) ?_)
                              | (with_reducible refine load_val_want HK.out 0 _ rfl rfl rfl rfl P0.out (by have := HC.out; omega) ?_)
                              | (with_reducible refine load_val_want HK.out 0 _ rfl rfl rfl rfl P1.out (by have := HC.out; omega) ?_)
                              | (with_reducible refine load_val_want HK.out 0 _ rfl rfl rfl rfl P2.out (by have := HC.out; omega) ?_)
                              | (with_reducible refine gtr_want D1.out _ _ _ rfl rfl rfl rfl ?_)
                              | (with_reducible refine gtr_want D2.out _ _ _ rfl rfl rfl rfl ?_)
                              | (go_at_call 40; (with_reducible refine (ris_any _ _).mono ?_); rintro e u ⟨rfl, rfl⟩)
                              | (with_reducible refine load_want HK.out 0 288 Tryz.underlying36 rfl r_info _ rfl rfl rfl rfl (by have := HC.out; omega) ?_)
                              | (go_at_call 108; (with_reducible refine (hr1 _).mono ?_); rintro e u ⟨rfl, hb⟩; have hk := HK.out.call hb; clear hb; clear HK; have HK := Lib.hid hk; clear hk)
                              | (go_at_call 108; (with_reducible refine (hr2 _).mono ?_); rintro e u ⟨rfl, hb⟩; have hk := HK.out.call hb; clear hb; clear HK; have HK := Lib.hid hk; clear hk)
                              | (with_reducible refine load_part HK.out 0 16 Tryz.underlying33 rfl vec_info rfl _ rfl rfl rfl (by have := HC.out; omega) ?_)
                              | (go_at_call 109; (with_reducible refine (hs1 _).mono ?_); rintro e u ⟨rfl, hb⟩; have hk := HK.out.call hb; clear hb; clear HK; have HK := Lib.hid hk; clear hk)
                              | (go_at_call 109; (with_reducible refine (hs2 _).mono ?_); rintro e u ⟨rfl, hb⟩; have hk := HK.out.call hb; clear hb; clear HK; have HK := Lib.hid hk; clear hk)
                              | (go_at_call 109; (with_reducible refine (hs3 _).mono ?_); rintro e u ⟨rfl, hb⟩; have hk := HK.out.call hb; clear hb; clear HK; have HK := Lib.hid hk; clear hk)
                              | (go_at_call 109; (with_reducible refine (hs4 _).mono ?_); rintro e u ⟨rfl, hb⟩; have hk := HK.out.call hb; clear hb; clear HK; have HK := Lib.hid hk; clear hk)
                              | (go_at_call 65; (with_reducible refine (ha1 _).mono ?_); rintro e u ⟨rfl, rfl⟩)
                              | (go_at_call 65; (with_reducible refine (ha2 _).mono ?_); rintro e u ⟨rfl, rfl⟩))
                            go_ret
                            first
                              | exact ⟨rfl, HK.out.bel⟩
                              | exact ⟨by simp only [k5], HK.out.bel⟩
                              | exact ⟨by simp [k5], HK.out.bel⟩
                          | true =>
                            cases k6 : (n1 == y1) with
                            | false =>
                              simp only [Bool.and_true, Bool.true_and, Bool.and_false, Bool.false_and]
                              go_enter Tryz.func69, Tryz.ntmps69
                              go_wp2_with (first
                                | (with_reducible refine box_new (R := C) HK.out rfl _ rfl rfl ?_; intro bc u hk hb; clear hb; clear HK; have HK := Lib.hid hk; clear hk)
                                | (with_reducible refine load_val HK.out 0 rfl _ rfl rfl rfl P0.out (by have := HC.out; omega) ?_)
                                | (with_reducible refine load_val HK.out 0 rfl _ rfl rfl rfl P1.out (by have := HC.out; omega) ?_)
                                | (with_reducible refine load_val HK.out 0 rfl _ rfl rfl rfl P2.out (by have := HC.out; omega) ?_)
                                | (with_reducible refine load_val_want HK.out 0 _ rfl rfl rfl rfl P0.out (by have := HC.out; omega) ?_)
                                | (with_reducible refine load_val_want HK.out 0 _ rfl rfl rfl rfl P1.out (by have := HC.out; omega) ?_)
                                | (with_reducible refine load_val_want HK.out 0 _ rfl rfl rfl rfl P2.out (by have := HC.out; omega) ?_)
                                | (with_reducible refine gtr_want D1.out _ _ _ rfl rfl rfl rfl ?_)
                                | (with_reducible refine gtr_want D2.out _ _ _ rfl rfl rfl rfl ?_)
                                | (go_at_call 40; (with_reducible refine (ris_any _ _).mono ?_); rintro e u ⟨rfl, rfl⟩)
                                | (with_reducible refine load_want HK.out 0 288 Tryz.underlying36 rfl r_info _ rfl rfl rfl rfl (by have := HC.out; omega) ?_)
                                | (go_at_call 108; (with_reducible refine (hr1 _).mono ?_); rintro e u ⟨rfl, hb⟩; have hk := HK.out.call hb; clear hb; clear HK; have HK := Lib.hid hk; clear hk)
                                | (go_at_call 108; (with_reducible refine (hr2 _).mono ?_); rintro e u ⟨rfl, hb⟩; have hk := HK.out.call hb; clear hb; clear HK; have HK := Lib.hid hk; clear hk)
                                | (with_reducible refine load_part HK.out 0 16 Tryz.underlying33 rfl vec_info rfl _ rfl rfl rfl (by have := HC.out; omega) ?_)
                                | (go_at_call 109; (with_reducible refine (hs1 _).mono ?_); rintro e u ⟨rfl, hb⟩; have hk := HK.out.call hb; clear hb; clear HK; have HK := Lib.hid hk; clear hk)
                                | (go_at_call 109; (with_reducible refine (hs2 _).mono ?_); rintro e u ⟨rfl, hb⟩; have hk := HK.out.call hb; clear hb; clear HK; have HK := Lib.hid hk; clear hk)
                                | (go_at_call 109; (with_reducible refine (hs3 _).mono ?_); rintro e u ⟨rfl, hb⟩; have hk := HK.out.call hb; clear hb; clear HK; have HK := Lib.hid hk; clear hk)
                                | (go_at_call 109; (with_reducible refine (hs4 _).mono ?_); rintro e u ⟨rfl, hb⟩; have hk := HK.out.call hb; clear hb; clear HK; have HK := Lib.hid hk; clear hk)
                                | (go_at_call 65; (with_reducible refine (ha1 _).mono ?_); rintro e u ⟨rfl, rfl⟩)
                                | (go_at_call 65; (with_reducible refine (ha2 _).mono ?_); rintro e u ⟨rfl, rfl⟩))
                              go_ret
                              first
                                | exact ⟨rfl, HK.out.bel⟩
                                | exact ⟨by simp only [k6], HK.out.bel⟩
                                | exact ⟨by simp [k6], HK.out.bel⟩
                            | true =>
                              cases k7 : (n3 == y2) with
                              | false =>
                                simp only [Bool.and_true, Bool.and_false]
                                go_enter Tryz.func69, Tryz.ntmps69
                                go_wp2_with (first
                                  | (with_reducible refine box_new (R := C) HK.out rfl _ rfl rfl ?_; intro bc u hk hb; clear hb; clear HK; have HK := Lib.hid hk; clear hk)
                                  | (with_reducible refine load_val HK.out 0 rfl _ rfl rfl rfl P0.out (by have := HC.out; omega) ?_)
                                  | (with_reducible refine load_val HK.out 0 rfl _ rfl rfl rfl P1.out (by have := HC.out; omega) ?_)
                                  | (with_reducible refine load_val HK.out 0 rfl _ rfl rfl rfl P2.out (by have := HC.out; omega) ?_)
                                  | (with_reducible refine load_val_want HK.out 0 _ rfl rfl rfl rfl P0.out (by have := HC.out; omega) ?_)
                                  | (with_reducible refine load_val_want HK.out 0 _ rfl rfl rfl rfl P1.out (by have := HC.out; omega) ?_)
                                  | (with_reducible refine load_val_want HK.out 0 _ rfl rfl rfl rfl P2.out (by have := HC.out; omega) ?_)
                                  | (with_reducible refine gtr_want D1.out _ _ _ rfl rfl rfl rfl ?_)
                                  | (with_reducible refine gtr_want D2.out _ _ _ rfl rfl rfl rfl ?_)
                                  | (go_at_call 40; (with_reducible refine (ris_any _ _).mono ?_); rintro e u ⟨rfl, rfl⟩)
                                  | (with_reducible refine load_want HK.out 0 288 Tryz.underlying36 rfl r_info _ rfl rfl rfl rfl (by have := HC.out; omega) ?_)
                                  | (go_at_call 108; (with_reducible refine (hr1 _).mono ?_); rintro e u ⟨rfl, hb⟩; have hk := HK.out.call hb; clear hb; clear HK; have HK := Lib.hid hk; clear hk)
                                  | (go_at_call 108; (with_reducible refine (hr2 _).mono ?_); rintro e u ⟨rfl, hb⟩; have hk := HK.out.call hb; clear hb; clear HK; have HK := Lib.hid hk; clear hk)
                                  | (with_reducible refine load_part HK.out 0 16 Tryz.underlying33 rfl vec_info rfl _ rfl rfl rfl (by have := HC.out; omega) ?_)
                                  | (go_at_call 109; (with_reducible refine (hs1 _).mono ?_); rintro e u ⟨rfl, hb⟩; have hk := HK.out.call hb; clear hb; clear HK; have HK := Lib.hid hk; clear hk)
                                  | (go_at_call 109; (with_reducible refine (hs2 _).mono ?_); rintro e u ⟨rfl, hb⟩; have hk := HK.out.call hb; clear hb; clear HK; have HK := Lib.hid hk; clear hk)
                                  | (go_at_call 109; (with_reducible refine (hs3 _).mono ?_); rintro e u ⟨rfl, hb⟩; have hk := HK.out.call hb; clear hb; clear HK; have HK := Lib.hid hk; clear hk)
                                  | (go_at_call 109; (with_reducible refine (hs4 _).mono ?_); rintro e u ⟨rfl, hb⟩; have hk := HK.out.call hb; clear hb; clear HK; have HK := Lib.hid hk; clear hk)
                                  | (go_at_call 65; (with_reducible refine (ha1 _).mono ?_); rintro e u ⟨rfl, rfl⟩)
                                  | (go_at_call 65; (with_reducible refine (ha2 _).mono ?_); rintro e u ⟨rfl, rfl⟩))
                                go_ret
                                first
                                  | exact ⟨rfl, HK.out.bel⟩
                                  | exact ⟨by simp only [k7], HK.out.bel⟩
                                  | exact ⟨by simp [k7], HK.out.bel⟩
                              | true =>
                                simp only [Bool.and_self]
                                go_enter Tryz.func69, Tryz.ntmps69
                                go_wp2_with (first
                                  | (with_reducible refine box_new (R := C) HK.out rfl _ rfl rfl ?_; intro bc u hk hb; clear hb; clear HK; have HK := Lib.hid hk; clear hk)
                                  | (with_reducible refine load_val HK.out 0 rfl _ rfl rfl rfl P0.out (by have := HC.out; omega) ?_)
                                  | (with_reducible refine load_val HK.out 0 rfl _ rfl rfl rfl P1.out (by have := HC.out; omega) ?_)
                                  | (with_reducible refine load_val HK.out 0 rfl _ rfl rfl rfl P2.out (by have := HC.out; omega) ?_)
                                  | (with_reducible refine load_val_want HK.out 0 _ rfl rfl rfl rfl P0.out (by have := HC.out; omega) ?_)
                                  | (with_reducible refine load_val_want HK.out 0 _ rfl rfl rfl rfl P1.out (by have := HC.out; omega) ?_)
                                  | (with_reducible refine load_val_want HK.out 0 _ rfl rfl rfl rfl P2.out (by have := HC.out; omega) ?_)
                                  | (with_reducible refine gtr_want D1.out _ _ _ rfl rfl rfl rfl ?_)
                                  | (with_reducible refine gtr_want D2.out _ _ _ rfl rfl rfl rfl ?_)
                                  | (go_at_call 40; (with_reducible refine (ris_any _ _).mono ?_); rintro e u ⟨rfl, rfl⟩)
                                  | (with_reducible refine load_want HK.out 0 288 Tryz.underlying36 rfl r_info _ rfl rfl rfl rfl (by have := HC.out; omega) ?_)
                                  | (go_at_call 108; (with_reducible refine (hr1 _).mono ?_); rintro e u ⟨rfl, hb⟩; have hk := HK.out.call hb; clear hb; clear HK; have HK := Lib.hid hk; clear hk)
                                  | (go_at_call 108; (with_reducible refine (hr2 _).mono ?_); rintro e u ⟨rfl, hb⟩; have hk := HK.out.call hb; clear hb; clear HK; have HK := Lib.hid hk; clear hk)
                                  | (with_reducible refine load_part HK.out 0 16 Tryz.underlying33 rfl vec_info rfl _ rfl rfl rfl (by have := HC.out; omega) ?_)
                                  | (go_at_call 109; (with_reducible refine (hs1 _).mono ?_); rintro e u ⟨rfl, hb⟩; have hk := HK.out.call hb; clear hb; clear HK; have HK := Lib.hid hk; clear hk)
                                  | (go_at_call 109; (with_reducible refine (hs2 _).mono ?_); rintro e u ⟨rfl, hb⟩; have hk := HK.out.call hb; clear hb; clear HK; have HK := Lib.hid hk; clear hk)
                                  | (go_at_call 109; (with_reducible refine (hs3 _).mono ?_); rintro e u ⟨rfl, hb⟩; have hk := HK.out.call hb; clear hb; clear HK; have HK := Lib.hid hk; clear hk)
                                  | (go_at_call 109; (with_reducible refine (hs4 _).mono ?_); rintro e u ⟨rfl, hb⟩; have hk := HK.out.call hb; clear hb; clear HK; have HK := Lib.hid hk; clear hk)
                                  | (go_at_call 65; (with_reducible refine (ha1 _).mono ?_); rintro e u ⟨rfl, rfl⟩)
                                  | (go_at_call 65; (with_reducible refine (ha2 _).mono ?_); rintro e u ⟨rfl, rfl⟩))
                                go_ret
                                first
                                  | exact ⟨rfl, HK.out.bel⟩
                                  | exact ⟨by simp only [k7], HK.out.bel⟩
                                  | exact ⟨by simp [k7], HK.out.bel⟩
          · rw [decide_eq_false c2]
            have c1' : ¬ p0 < p1 := by omega
            have c2' : p2 < p0 := by omega
            clear c1 c2
            have D1 := Lib.hid (decide_eq_false c1'); have D2 := Lib.hid (decide_eq_true c2')
            simp only [Bool.and_false, Bool.false_and]
            go_enter Tryz.func69, Tryz.ntmps69
            go_wp2_with (first
              | (with_reducible refine box_new (R := C) HK.out rfl _ rfl rfl ?_; intro bc u hk hb; clear hb; clear HK; have HK := Lib.hid hk; clear hk)
              | (with_reducible refine load_val HK.out 0 rfl _ rfl rfl rfl P0.out (by have := HC.out; omega) ?_)
              | (with_reducible refine load_val HK.out 0 rfl _ rfl rfl rfl P1.out (by have := HC.out; omega) ?_)
              | (with_reducible refine load_val HK.out 0 rfl _ rfl rfl rfl P2.out (by have := HC.out; omega) ?_)
              | (with_reducible refine load_val_want HK.out 0 _ rfl rfl rfl rfl P0.out (by have := HC.out; omega) ?_)
              | (with_reducible refine load_val_want HK.out 0 _ rfl rfl rfl rfl P1.out (by have := HC.out; omega) ?_)
              | (with_reducible refine load_val_want HK.out 0 _ rfl rfl rfl rfl P2.out (by have := HC.out; omega) ?_)
              | (with_reducible refine gtr_want D1.out _ _ _ rfl rfl rfl rfl ?_)
              | (with_reducible refine gtr_want D2.out _ _ _ rfl rfl rfl rfl ?_)
              | (go_at_call 40; (with_reducible refine (ris_any _ _).mono ?_); rintro e u ⟨rfl, rfl⟩)
              | (with_reducible refine load_want HK.out 0 288 Tryz.underlying36 rfl r_info _ rfl rfl rfl rfl (by have := HC.out; omega) ?_)
              | (go_at_call 108; (with_reducible refine (hr1 _).mono ?_); rintro e u ⟨rfl, hb⟩; have hk := HK.out.call hb; clear hb; clear HK; have HK := Lib.hid hk; clear hk)
              | (go_at_call 108; (with_reducible refine (hr2 _).mono ?_); rintro e u ⟨rfl, hb⟩; have hk := HK.out.call hb; clear hb; clear HK; have HK := Lib.hid hk; clear hk))
            go_ret
            exact ⟨rfl, HK.out.bel⟩
        · rw [decide_eq_false c1]
          have c1' : p0 < p1 := by omega
          clear c1
          have D1 := Lib.hid (decide_eq_true c1'); have D2 := Lib.hid (show decide (p2 < p2) = false by simp)
          simp only [Bool.and_false, Bool.false_and]
          go_enter Tryz.func69, Tryz.ntmps69
          go_wp2_with (first
            | (with_reducible refine box_new (R := C) HK.out rfl _ rfl rfl ?_; intro bc u hk hb; clear hb; clear HK; have HK := Lib.hid hk; clear hk)
            | (with_reducible refine load_val HK.out 0 rfl _ rfl rfl rfl P0.out (by have := HC.out; omega) ?_)
            | (with_reducible refine load_val HK.out 0 rfl _ rfl rfl rfl P1.out (by have := HC.out; omega) ?_)
            | (with_reducible refine load_val HK.out 0 rfl _ rfl rfl rfl P2.out (by have := HC.out; omega) ?_)
            | (with_reducible refine load_val_want HK.out 0 _ rfl rfl rfl rfl P0.out (by have := HC.out; omega) ?_)
            | (with_reducible refine load_val_want HK.out 0 _ rfl rfl rfl rfl P1.out (by have := HC.out; omega) ?_)
            | (with_reducible refine load_val_want HK.out 0 _ rfl rfl rfl rfl P2.out (by have := HC.out; omega) ?_)
            | (with_reducible refine gtr_want D1.out _ _ _ rfl rfl rfl rfl ?_)
            | (with_reducible refine gtr_want D2.out _ _ _ rfl rfl rfl rfl ?_)
            | (go_at_call 40; (with_reducible refine (ris_any _ _).mono ?_); rintro e u ⟨rfl, rfl⟩)
            | (with_reducible refine load_want HK.out 0 288 Tryz.underlying36 rfl r_info _ rfl rfl rfl rfl (by have := HC.out; omega) ?_)
            | (go_at_call 108; (with_reducible refine (hr1 _).mono ?_); rintro e u ⟨rfl, hb⟩; have hk := HK.out.call hb; clear hb; clear HK; have HK := Lib.hid hk; clear hk)
            | (go_at_call 108; (with_reducible refine (hr2 _).mono ?_); rintro e u ⟨rfl, hb⟩; have hk := HK.out.call hb; clear hb; clear HK; have HK := Lib.hid hk; clear hk))
          go_ret
          exact ⟨rfl, HK.out.bel⟩

end Go.Proofs.YtgblnlpfgdbnnaaGreat
