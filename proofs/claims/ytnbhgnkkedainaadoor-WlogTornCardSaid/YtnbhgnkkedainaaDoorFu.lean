/- The document's Take. -/
import Derived.Test.YtnbhgnkkedainaaDoorFt
namespace Go.Proofs.YtnbhgnkkedainaaDoor
open Go.ChangeShapes Go.WideShapes Go.ChangeAt Go.RowKit

theorem KO.part {w0 w : World} {v : Value} {l : List UInt8} (h : KO w0 v l w) : ∃ A c, v = .slice A l.length c ∧ l.length ≤ c := h.own.slice
set_option maxHeartbeats 1000000 in
theorem rtake_any (A : Option Addr) (n c : Nat) (l : List UInt8) (hl : l.length = n) (hc : n ≤ c) (hm : n ≤ 1000000) (w : World) (hd : Bys w A l) :
    Calls Tryd.prog 26 #[.slice A n c] w (Takes w l) := by
  have HL := Lib.hid hl
  by_cases h8 : n < 8
  · have hE : tkE l = 3 := by rw [tkE, if_pos (by omega)]
    have i1 : (n : Int) < 8 := by omega
    go_enter Tryd.func26, Tryd.ntmps26
    go_wp2
    refine bodyPost_ret (results_tmp3 rfl _ _ _) rfl ?_
    exact takes_none hE (by decide) (Below.refl _ _)
  obtain ⟨b, off, rfl, _⟩ := hd.at (k := 0) (by omega)
  have i1 : ¬ (n : Int) < 8 := by omega
  have i3 : (4 : Int) ≤ (c : Int) := by omega
  have i4 : (8 : Int) ≤ (c : Int) := by omega
  have i9 : ¬ c = 4 := by omega
  have HB4 := Lib.hid hd
  have hE : tkE l = if 32768 < dcd l then 2 else if n < 8 + dcd l then 3 else if crc ((l.drop 8).take (dcd l)) = dcd (l.drop 4) then 0 else 6 := by rw [tkE, if_neg (by omega), hl]
  have HLP := Lib.hid (show 8 + dcd l ≤ n → ((l.drop 8).take (dcd l)).length = dcd l by intro h; rw [List.length_take, List.length_drop]; omega)
  have HLS := Lib.hid (show ((l.drop 4).take 4).length = 4 by rw [List.length_take, List.length_drop]; omega)
  have HS4 := Lib.hid (dcd_of_take (l := l.drop 4) (by rw [List.length_drop]; omega) 4 (by omega))
  have HS := Lib.hid (show Bys w (some ⟨b, off + 4, none⟩) ((l.drop 4).take 4) from (hd.drop 4).take 4)
  by_cases h2 : 32768 < dcd l
  · rw [if_pos h2] at hE
    have HE := Lib.hid hE
    have i2 : (32768 : Int) < (dcd l : Int) := by omega
    generalize hD : dcd l = D at *
    have HD4 := Lib.hid hD
    clear hD
    clear hE
    go_enter Tryd.func26, Tryd.ntmps26
    go_wp2_with (first
      | (go_at_call 37; (with_reducible refine (num_at _ _ _ l D HL.out (by omega) HD4.out _ HB4.out).mono ?_); rintro e u ⟨rfl, q, rfl⟩))
    refine bodyPost_ret (results_tmp3 rfl _ _ _) rfl ?_
    exact takes_none HE.out (by decide) (below_dn _ _)
  rw [if_neg h2] at hE
  have i2 : ¬ (32768 : Int) < (dcd l : Int) := by omega
  by_cases h3 : n < 8 + dcd l
  · rw [if_pos h3] at hE
    have HE := Lib.hid hE
    have i5 : (n : Int) < (dcd l : Int) + 8 := by omega
    generalize hD : dcd l = D at *
    have HD4 := Lib.hid hD
    clear hD
    clear hE
    go_enter Tryd.func26, Tryd.ntmps26
    go_wp2_with (first
      | (go_at_call 37; (with_reducible refine (num_at _ _ _ l D HL.out (by omega) HD4.out _ HB4.out).mono ?_); rintro e u ⟨rfl, q, rfl⟩))
    refine bodyPost_ret (results_tmp3 rfl _ _ _) rfl ?_
    exact takes_none HE.out (by decide) (below_dn _ _)
  rw [if_neg h3] at hE
  have i5 : ¬ (n : Int) < (dcd l : Int) + 8 := by omega
  have i6 : 8 + (dcd l : Int) ≤ (c : Int) := by omega
  have i7 : (8 : Int) ≤ 8 + (dcd l : Int) := by omega
  have i8 : (8 + (dcd l : Int)).toNat = 8 + dcd l := by omega
  have hlp := HLP.out (by omega)
  clear HLP
  have HLP := Lib.hid hlp
  clear hlp
  have HM := Lib.hid (show dcd l ≤ 1048576 by omega)
  have hP : Bys w (some ⟨b, if c = 8 then off else off + 8, none⟩) ((l.drop 8).take (dcd l)) := by
    split
    · exact .inl (List.eq_nil_of_length_eq_zero (by rw [HLP.out]; omega))
    · exact (hd.drop 8).take (dcd l)
  have ho : tkE l = 0 → tkP l = (l.drop 8).take (dcd l) ∧ tkS l = 8 + dcd l := fun h => ⟨by rw [tkP, if_pos h], by rw [tkS, if_pos h]⟩
  have HO := Lib.hid ho
  clear ho hd
  generalize (l.drop 8).take (dcd l) = P at *
  have hSl := crc_lt P
  generalize hSP : crc P = SP at *
  have hs1 : wrap64 (SP : Int) = (SP : Int) := by unfold wrap64; omega
  clear hSl
  have HSP := Lib.hid hSP
  generalize dcd (l.drop 4) = S4 at *
  generalize hD : dcd l = D at *
  have HD4 := Lib.hid hD
  clear hD
  clear hSP
  by_cases h8 : c = 8
  · rw [if_pos h8] at hP
    have HP := Lib.hid hP
    clear hP
    by_cases hq : SP = S4
    · rw [if_pos hq] at hE
      obtain ⟨e1, e2⟩ := HO.out hE
      have HE := Lib.hid hE; have H1 := Lib.hid e1; have H2 := Lib.hid e2
      clear hE e1 e2
      subst hq
      have hx : ((SP : Int) == (SP : Int)) = true := by simp
      go_enter Tryd.func26, Tryd.ntmps26
      go_wp2_with (first
        | (go_at_call 37; (with_reducible refine (num_at _ _ _ l D HL.out (by omega) HD4.out _ HB4.out).mono ?_); rintro e u ⟨rfl, q, rfl⟩; have HB0 := Lib.hid (below_dn w q))
        | (with_reducible refine build_none HB0.out rfl rfl ?_; intro v u hk hb; clear hb HB0; have HK := Lib.hid hk; clear hk)
        | (refine app_more HK.out (HP.out.below HK.out.bel) HLP.out rfl _ _ rfl rfl rfl (by have := HM.out; have := HLP.out; simp; omega) ?_; intro v' u hk; rw [List.nil_append] at hk; obtain ⟨A3, c3, rfl, hc3⟩ := hk.part; clear HK; have HK := Lib.hid hk; have HC3 := Lib.hid hc3; clear hk hc3))
      go_quiet (first
        | (go_at_call 38; exact (rsum_at _ _ _ P SP rfl (by have := HM.out; have := HLP.out; omega) HSP.out _ (HK.out.own.bys.drewN _)).mono fun _ _ ⟨he, hw⟩ => ⟨he, _, hw.symm⟩)
        | (go_at_call 37; exact Calls.quiet_of (num_at _ _ _ ((l.drop 4).take 4) SP HLS.out (by decide) HS4.out _ ((HS.out.below HK.out.bel).drewN _))))
      have hk := HK.out.drewN nq
      clear HK
      have HK := Lib.hid hk
      clear hk
      go_wp2
      refine bodyPost_ret (results_tmp3 rfl _ _ _) rfl ?_
      unfold Takes
      rw [H1.out, H2.out, HE.out]
      exact ⟨A3, c3, ⟨by rw [show ((8 + D : Nat) : Int) = (D : Int) + 8 by omega]; rfl, HC3.out⟩, HK.out⟩
    · rw [if_neg hq] at hE
      have HE := Lib.hid hE
      clear hE
      have hx : ((SP : Int) == (S4 : Int)) = false := by simp; omega
      go_enter Tryd.func26, Tryd.ntmps26
      go_wp2_with (first
        | (go_at_call 37; (with_reducible refine (num_at _ _ _ l D HL.out (by omega) HD4.out _ HB4.out).mono ?_); rintro e u ⟨rfl, q, rfl⟩; have HB0 := Lib.hid (below_dn w q))
        | (with_reducible refine build_none HB0.out rfl rfl ?_; intro v u hk hb; clear hb HB0; have HK := Lib.hid hk; clear hk)
        | (refine app_more HK.out (HP.out.below HK.out.bel) HLP.out rfl _ _ rfl rfl rfl (by have := HM.out; have := HLP.out; simp; omega) ?_; intro v' u hk; rw [List.nil_append] at hk; obtain ⟨A3, c3, rfl, hc3⟩ := hk.part; clear HK; have HK := Lib.hid hk; have HC3 := Lib.hid hc3; clear hk hc3))
      go_quiet (first
        | (go_at_call 38; exact (rsum_at _ _ _ P SP rfl (by have := HM.out; have := HLP.out; omega) HSP.out _ (HK.out.own.bys.drewN _)).mono fun _ _ ⟨he, hw⟩ => ⟨he, _, hw.symm⟩)
        | (go_at_call 37; exact Calls.quiet_of (num_at _ _ _ ((l.drop 4).take 4) S4 HLS.out (by decide) HS4.out _ ((HS.out.below HK.out.bel).drewN _))))
      have hk := HK.out.drewN nq
      clear HK
      have HK := Lib.hid hk
      clear hk
      go_wp2
      refine bodyPost_ret (results_tmp3 rfl _ _ _) rfl ?_
      exact takes_none HE.out (by decide) HK.out.bel
  · rw [if_neg h8] at hP
    have HP := Lib.hid hP
    clear hP
    by_cases hq : SP = S4
    · rw [if_pos hq] at hE
      obtain ⟨e1, e2⟩ := HO.out hE
      have HE := Lib.hid hE; have H1 := Lib.hid e1; have H2 := Lib.hid e2
      clear hE e1 e2
      subst hq
      have hx : ((SP : Int) == (SP : Int)) = true := by simp
      go_enter Tryd.func26, Tryd.ntmps26
      go_wp2_with (first
        | (go_at_call 37; (with_reducible refine (num_at _ _ _ l D HL.out (by omega) HD4.out _ HB4.out).mono ?_); rintro e u ⟨rfl, q, rfl⟩; have HB0 := Lib.hid (below_dn w q))
        | (with_reducible refine build_none HB0.out rfl rfl ?_; intro v u hk hb; clear hb HB0; have HK := Lib.hid hk; clear hk)
        | (refine app_more HK.out (HP.out.below HK.out.bel) HLP.out rfl _ _ rfl rfl rfl (by have := HM.out; have := HLP.out; simp; omega) ?_; intro v' u hk; rw [List.nil_append] at hk; obtain ⟨A3, c3, rfl, hc3⟩ := hk.part; clear HK; have HK := Lib.hid hk; have HC3 := Lib.hid hc3; clear hk hc3))
      go_quiet (first
        | (go_at_call 38; exact (rsum_at _ _ _ P SP rfl (by have := HM.out; have := HLP.out; omega) HSP.out _ (HK.out.own.bys.drewN _)).mono fun _ _ ⟨he, hw⟩ => ⟨he, _, hw.symm⟩)
        | (go_at_call 37; exact Calls.quiet_of (num_at _ _ _ ((l.drop 4).take 4) SP HLS.out (by decide) HS4.out _ ((HS.out.below HK.out.bel).drewN _))))
      have hk := HK.out.drewN nq
      clear HK
      have HK := Lib.hid hk
      clear hk
      go_wp2
      refine bodyPost_ret (results_tmp3 rfl _ _ _) rfl ?_
      unfold Takes
      rw [H1.out, H2.out, HE.out]
      exact ⟨A3, c3, ⟨by rw [show ((8 + D : Nat) : Int) = (D : Int) + 8 by omega]; rfl, HC3.out⟩, HK.out⟩
    · rw [if_neg hq] at hE
      have HE := Lib.hid hE
      clear hE
      have hx : ((SP : Int) == (S4 : Int)) = false := by simp; omega
      go_enter Tryd.func26, Tryd.ntmps26
      go_wp2_with (first
        | (go_at_call 37; (with_reducible refine (num_at _ _ _ l D HL.out (by omega) HD4.out _ HB4.out).mono ?_); rintro e u ⟨rfl, q, rfl⟩; have HB0 := Lib.hid (below_dn w q))
        | (with_reducible refine build_none HB0.out rfl rfl ?_; intro v u hk hb; clear hb HB0; have HK := Lib.hid hk; clear hk)
        | (refine app_more HK.out (HP.out.below HK.out.bel) HLP.out rfl _ _ rfl rfl rfl (by have := HM.out; have := HLP.out; simp; omega) ?_; intro v' u hk; rw [List.nil_append] at hk; obtain ⟨A3, c3, rfl, hc3⟩ := hk.part; clear HK; have HK := Lib.hid hk; have HC3 := Lib.hid hc3; clear hk hc3))
      go_quiet (first
        | (go_at_call 38; exact (rsum_at _ _ _ P SP rfl (by have := HM.out; have := HLP.out; omega) HSP.out _ (HK.out.own.bys.drewN _)).mono fun _ _ ⟨he, hw⟩ => ⟨he, _, hw.symm⟩)
        | (go_at_call 37; exact Calls.quiet_of (num_at _ _ _ ((l.drop 4).take 4) S4 HLS.out (by decide) HS4.out _ ((HS.out.below HK.out.bel).drewN _))))
      have hk := HK.out.drewN nq
      clear HK
      have HK := Lib.hid hk
      clear hk
      go_wp2
      refine bodyPost_ret (results_tmp3 rfl _ _ _) rfl ?_
      exact takes_none HE.out (by decide) HK.out.bel
end Go.Proofs.YtnbhgnkkedainaaDoor
