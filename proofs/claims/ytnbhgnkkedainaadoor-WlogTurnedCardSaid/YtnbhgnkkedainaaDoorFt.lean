/- frame.Take and the document's Take. -/
import Derived.Test.YtnbhgnkkedainaaDoorFp
namespace Go.Proofs.YtnbhgnkkedainaaDoor
open Go.ChangeShapes Go.WideShapes Go.ChangeAt Go.RowKit

theorem below_dn (w : World) (q : Nat) : Below w.heap.size w (w.drewN q) := ⟨rfl, rfl, rfl, Nat.le_refl _, fun _ _ => rfl⟩
theorem Bys.drewN {w : World} {A : Option Addr} {l : List UInt8} (h : Bys w A l) (q : Nat) : Bys (w.drewN q) A l := h.below (below_dn _ q)
theorem Nib.drewN {w : World} (h : Nib w) (q : Nat) : Nib (w.drewN q) := h.below (below_dn _ q)
theorem KO.drewN {w0 w : World} {v : Value} {l : List UInt8} (h : KO w0 v l w) (q : Nat) : KO w0 v l (w.drewN q) := h.call (below_dn _ q)
/-- What taking ends with. -/
def Takes (w : World) (l : List UInt8) (e : Ending) (w' : World) : Prop := ∃ A c, (e = .returned (.tuple #[.slice A (tkP l).length c, .int .i64 (tkS l : Int), .int .i64 (tkE l)]) ∧ (tkP l).length ≤ c) ∧ KO w (.slice A (tkP l).length c) (tkP l) w'
theorem takes_none {w w' : World} {l : List UInt8} {z : Int} (h : tkE l = z) (hz : z ≠ 0) (hb : Below w.heap.size w w') : Takes w l (.returned (.tuple #[.slice none 0 0, .int .i64 0, .int .i64 z])) w' := by
  obtain ⟨h1, h2⟩ := tk_none (l := l) (by rw [h]; exact hz)
  unfold Takes
  rw [h1, h2, h]
  exact ⟨none, 0, ⟨rfl, Nat.le_refl _⟩, hb, Own.nil _ _⟩
theorem dec_at (A : Option Addr) (n c : Nat) (l : List UInt8) (D : Nat) (hn : l.length = n) (h4 : 4 ≤ n) (hD : dcd l = D) (w : World) (hd : Bys w A l) :
    Calls Tryd.prog 39 #[.slice A n c] w fun e w' => e = .returned (.int .u32 (D : Int)) ∧ ∃ q, w' = w.drewN q := by
  subst hD; exact decoded_any A n c l hn h4 w hd
theorem sum_at (A : Option Addr) (n c : Nat) (l : List UInt8) (D : Nat) (hn : l.length = n) (hm : n ≤ 1048576) (hD : crc l = D) (w : World) (hd : Bys w A l) (hw : Nib w) :
    Calls Tryd.prog 40 #[.slice A n c] w fun e w' => e = .returned (.int .u32 (D : Int)) ∧ w = w' := by
  subst hD; exact sum_any A n c l hn hm w hd hw
theorem num_at (A : Option Addr) (n c : Nat) (l : List UInt8) (D : Nat) (hn : l.length = n) (h4 : 4 ≤ n) (hD : dcd l = D) (w : World) (hd : Bys w A l) :
    Calls Tryd.prog 37 #[.slice A n c] w fun e w' => e = .returned (.int .i64 (D : Int)) ∧ ∃ q, w' = w.drewN q := by
  subst hD; exact number_any A n c l hn h4 w hd
theorem rsum_at (A : Option Addr) (n c : Nat) (l : List UInt8) (D : Nat) (hn : l.length = n) (hm : n ≤ 1048576) (hD : crc l = D) (w : World) (hd : Bys w A l) :
    Calls Tryd.prog 38 #[.slice A n c] w fun e w' => e = .returned (.int .u32 (D : Int)) ∧ w = w' := by
  subst hD; exact rsum_any A n c l hn hm w hd
set_option maxHeartbeats 1000000 in
theorem take_any (A : Option Addr) (n c : Nat) (l : List UInt8) (hl : l.length = n) (hc : n ≤ c) (hm : n ≤ 1000000) (w : World) (hd : Bys w A l) (hw : Nib w) :
    Calls Tryd.prog 28 #[.slice A n c] w (Takes w l) := by
  have HL := Lib.hid hl
  by_cases h8 : n < 8
  · have hE : tkE l = 3 := by rw [tkE, if_pos (by omega)]
    have i1 : (n : Int) < 8 := by omega
    go_enter Tryd.func28, Tryd.ntmps28
    go_wp2
    exact bodyPost_ret (results_tmp3 rfl _ _ _) rfl (takes_none hE (by decide) (Below.refl _ _))
  obtain ⟨b, off, rfl, _⟩ := hd.at (k := 0) (by omega)
  have i1 : ¬ (n : Int) < 8 := by omega
  have i3 : (4 : Int) ≤ (c : Int) := by omega
  have i4 : (8 : Int) ≤ (c : Int) := by omega
  have i9 : ¬ c = 4 := by omega
  have hB4 : Bys w (some ⟨b, off, none⟩) (l.take 4) := hd.take 4
  have HB4 := Lib.hid hB4
  have HL4 := Lib.hid (show (l.take 4).length = 4 by rw [List.length_take]; omega)
  have HD4 := Lib.hid (dcd_of_take (l := l) (by omega) 4 (by omega))
  have hE : tkE l = if 32768 < dcd l then 2 else if n < 8 + dcd l then 3 else if crc ((l.drop 8).take (dcd l)) = dcd (l.drop 4) then 0 else 6 := by rw [tkE, if_neg (by omega), hl]
  by_cases h2 : 32768 < dcd l
  · rw [if_pos h2] at hE
    have HE := Lib.hid hE
    have i2 : (32768 : Int) < (dcd l : Int) := by omega
    generalize dcd l = D at *
    clear hE
    go_enter Tryd.func28, Tryd.ntmps28
    go_wp2_with (first
      | (go_at_call 39; (with_reducible refine (dec_at _ _ _ (l.take 4) D HL4.out (by decide) HD4.out _ HB4.out).mono ?_); rintro e u ⟨rfl, q, rfl⟩))
    exact bodyPost_ret (results_tmp3 rfl _ _ _) rfl (takes_none HE.out (by decide) (below_dn _ _))
  rw [if_neg h2] at hE
  have i2 : ¬ (32768 : Int) < (dcd l : Int) := by omega
  by_cases h3 : n < 8 + dcd l
  · rw [if_pos h3] at hE
    have HE := Lib.hid hE
    have i5 : (n : Int) < 8 + (dcd l : Int) := by omega
    generalize dcd l = D at *
    clear hE
    go_enter Tryd.func28, Tryd.ntmps28
    go_wp2_with (first
      | (go_at_call 39; (with_reducible refine (dec_at _ _ _ (l.take 4) D HL4.out (by decide) HD4.out _ HB4.out).mono ?_); rintro e u ⟨rfl, q, rfl⟩))
    exact bodyPost_ret (results_tmp3 rfl _ _ _) rfl (takes_none HE.out (by decide) (below_dn _ _))
  rw [if_neg h3] at hE
  have i5 : ¬ (n : Int) < 8 + (dcd l : Int) := by omega
  have i6 : 8 + (dcd l : Int) ≤ (c : Int) := by omega
  have i7 : (8 : Int) ≤ 8 + (dcd l : Int) := by omega
  have i8 : (8 + (dcd l : Int)).toNat = 8 + dcd l := by omega
  have HLP := Lib.hid (show ((l.drop 8).take (dcd l)).length = dcd l by rw [List.length_take, List.length_drop]; omega)
  have HM := Lib.hid (show dcd l ≤ 1048576 by omega)
  have HLS := Lib.hid (show ((l.drop 4).take 4).length = 4 by rw [List.length_take, List.length_drop]; omega)
  have HS4 := Lib.hid (dcd_of_take (l := l.drop 4) (by rw [List.length_drop]; omega) 4 (by omega))
  have HS := Lib.hid (show Bys w (some ⟨b, off + 4, none⟩) ((l.drop 4).take 4) from (hd.drop 4).take 4)
  have HW := Lib.hid hw
  have hP : Bys w (some ⟨b, if c = 8 then off else off + 8, none⟩) ((l.drop 8).take (dcd l)) := by
    split
    · exact .inl (List.eq_nil_of_length_eq_zero (by rw [HLP.out]; omega))
    · exact (hd.drop 8).take (dcd l)
  have hc8 : dcd l ≤ c - 8 := by omega
  have HC := Lib.hid hc8
  have ho : tkE l = 0 → tkP l = (l.drop 8).take (dcd l) ∧ tkS l = 8 + dcd l := fun h => ⟨by rw [tkP, if_pos h], by rw [tkS, if_pos h]⟩
  have HO := Lib.hid ho
  clear hc8 ho hd hw
  generalize (l.drop 8).take (dcd l) = P at *
  generalize hSP : crc P = SP at *
  have HSP := Lib.hid hSP
  generalize dcd (l.drop 4) = S4 at *
  generalize dcd l = D at *
  clear hSP
  by_cases h8 : c = 8
  · rw [if_pos h8] at hP
    have HP := Lib.hid hP
    clear hP
    by_cases hq : SP = S4
    · rw [if_pos hq] at hE
      obtain ⟨e1, e2⟩ := HO.out hE
      have HE := Lib.hid hE; have H1 := Lib.hid e1; have H2 := Lib.hid e2
      clear hE e1 e2
      subst hq
      have hx : ((SP : Int) == (SP : Int)) = true := by simp
      go_enter Tryd.func28, Tryd.ntmps28
      go_wp2_with (first
        | (go_at_call 39; (with_reducible refine (dec_at _ _ _ (l.take 4) D HL4.out (by decide) HD4.out _ HB4.out).mono ?_); rintro e u ⟨rfl, q, rfl⟩))
      have HB0 := Lib.hid (below_dn w q)
      have hp := HP.out.drewN q
      have hs := HS.out.drewN q
      have hw := HW.out.drewN q
      clear HP HS HW HB4 HD4 HL4
      generalize w.drewN q = u at *
      have HP := Lib.hid hp; have HS := Lib.hid hs; have HW := Lib.hid hw
      clear hp hs hw
      go_quiet (first
        | (go_at_call 40; exact (sum_at _ _ _ P SP HLP.out HM.out HSP.out _ (HP.out.drewN _) (HW.out.drewN _)).mono fun _ _ ⟨he, hw⟩ => ⟨he, _, hw.symm⟩)
        | (go_at_call 39; exact Calls.quiet_of (dec_at _ _ _ ((l.drop 4).take 4) SP HLS.out (by decide) HS4.out _ (HS.out.drewN _))))
      have hb := HB0.out.trans ((below_dn u nq).mono HB0.out.size)
      have hp := HP.out.drewN nq
      clear HB0 HP HS HW
      generalize u.drewN nq = u2 at *
      have HB0 := Lib.hid hb; have HP := Lib.hid hp
      clear hb hp
      go_wp2_with (first
        | (go_at_call 32; (with_reducible refine (clone_any _ _ _ P HLP.out (by have := HM.out; omega) _ HP.out).mono ?_); rintro e u ⟨A3, c3, ⟨rfl, hc3⟩, hk⟩; have hk := hk.lift HB0.out; clear HB0; have HK := Lib.hid hk; have HC3 := Lib.hid hc3; clear hk hc3))
      refine bodyPost_ret (results_tmp3 rfl _ _ _) rfl ?_
      unfold Takes
      rw [H1.out, H2.out, HE.out]
      exact ⟨A3, c3, ⟨rfl, HC3.out⟩, HK.out⟩
    · rw [if_neg hq] at hE
      have HE := Lib.hid hE
      clear hE
      have hx : ((SP : Int) == (S4 : Int)) = false := by simp; omega
      go_enter Tryd.func28, Tryd.ntmps28
      go_wp2_with (first
        | (go_at_call 39; (with_reducible refine (dec_at _ _ _ (l.take 4) D HL4.out (by decide) HD4.out _ HB4.out).mono ?_); rintro e u ⟨rfl, q, rfl⟩))
      have HB0 := Lib.hid (below_dn w q)
      have hp := HP.out.drewN q
      have hs := HS.out.drewN q
      have hw := HW.out.drewN q
      clear HP HS HW HB4 HD4 HL4
      generalize w.drewN q = u at *
      have HP := Lib.hid hp; have HS := Lib.hid hs; have HW := Lib.hid hw
      clear hp hs hw
      go_quiet (first
        | (go_at_call 40; exact (sum_at _ _ _ P SP HLP.out HM.out HSP.out _ (HP.out.drewN _) (HW.out.drewN _)).mono fun _ _ ⟨he, hw⟩ => ⟨he, _, hw.symm⟩)
        | (go_at_call 39; exact Calls.quiet_of (dec_at _ _ _ ((l.drop 4).take 4) S4 HLS.out (by decide) HS4.out _ (HS.out.drewN _))))
      have hb := HB0.out.trans ((below_dn u nq).mono HB0.out.size)
      have hp := HP.out.drewN nq
      clear HB0 HP HS HW
      generalize u.drewN nq = u2 at *
      have HB0 := Lib.hid hb; have HP := Lib.hid hp
      clear hb hp
      go_wp2
      refine bodyPost_ret (results_tmp3 rfl _ _ _) rfl ?_
      exact takes_none HE.out (by decide) HB0.out
  · rw [if_neg h8] at hP
    have HP := Lib.hid hP
    clear hP
    by_cases hq : SP = S4
    · rw [if_pos hq] at hE
      obtain ⟨e1, e2⟩ := HO.out hE
      have HE := Lib.hid hE; have H1 := Lib.hid e1; have H2 := Lib.hid e2
      clear hE e1 e2
      subst hq
      have hx : ((SP : Int) == (SP : Int)) = true := by simp
      go_enter Tryd.func28, Tryd.ntmps28
      go_wp2_with (first
        | (go_at_call 39; (with_reducible refine (dec_at _ _ _ (l.take 4) D HL4.out (by decide) HD4.out _ HB4.out).mono ?_); rintro e u ⟨rfl, q, rfl⟩))
      have HB0 := Lib.hid (below_dn w q)
      have hp := HP.out.drewN q
      have hs := HS.out.drewN q
      have hw := HW.out.drewN q
      clear HP HS HW HB4 HD4 HL4
      generalize w.drewN q = u at *
      have HP := Lib.hid hp; have HS := Lib.hid hs; have HW := Lib.hid hw
      clear hp hs hw
      go_quiet (first
        | (go_at_call 40; exact (sum_at _ _ _ P SP HLP.out HM.out HSP.out _ (HP.out.drewN _) (HW.out.drewN _)).mono fun _ _ ⟨he, hw⟩ => ⟨he, _, hw.symm⟩)
        | (go_at_call 39; exact Calls.quiet_of (dec_at _ _ _ ((l.drop 4).take 4) SP HLS.out (by decide) HS4.out _ (HS.out.drewN _))))
      have hb := HB0.out.trans ((below_dn u nq).mono HB0.out.size)
      have hp := HP.out.drewN nq
      clear HB0 HP HS HW
      generalize u.drewN nq = u2 at *
      have HB0 := Lib.hid hb; have HP := Lib.hid hp
      clear hb hp
      go_wp2_with (first
        | (go_at_call 32; (with_reducible refine (clone_any _ _ _ P HLP.out (by have := HM.out; omega) _ HP.out).mono ?_); rintro e u ⟨A3, c3, ⟨rfl, hc3⟩, hk⟩; have hk := hk.lift HB0.out; clear HB0; have HK := Lib.hid hk; have HC3 := Lib.hid hc3; clear hk hc3))
      refine bodyPost_ret (results_tmp3 rfl _ _ _) rfl ?_
      unfold Takes
      rw [H1.out, H2.out, HE.out]
      exact ⟨A3, c3, ⟨rfl, HC3.out⟩, HK.out⟩
    · rw [if_neg hq] at hE
      have HE := Lib.hid hE
      clear hE
      have hx : ((SP : Int) == (S4 : Int)) = false := by simp; omega
      go_enter Tryd.func28, Tryd.ntmps28
      go_wp2_with (first
        | (go_at_call 39; (with_reducible refine (dec_at _ _ _ (l.take 4) D HL4.out (by decide) HD4.out _ HB4.out).mono ?_); rintro e u ⟨rfl, q, rfl⟩))
      have HB0 := Lib.hid (below_dn w q)
      have hp := HP.out.drewN q
      have hs := HS.out.drewN q
      have hw := HW.out.drewN q
      clear HP HS HW HB4 HD4 HL4
      generalize w.drewN q = u at *
      have HP := Lib.hid hp; have HS := Lib.hid hs; have HW := Lib.hid hw
      clear hp hs hw
      go_quiet (first
        | (go_at_call 40; exact (sum_at _ _ _ P SP HLP.out HM.out HSP.out _ (HP.out.drewN _) (HW.out.drewN _)).mono fun _ _ ⟨he, hw⟩ => ⟨he, _, hw.symm⟩)
        | (go_at_call 39; exact Calls.quiet_of (dec_at _ _ _ ((l.drop 4).take 4) S4 HLS.out (by decide) HS4.out _ (HS.out.drewN _))))
      have hb := HB0.out.trans ((below_dn u nq).mono HB0.out.size)
      have hp := HP.out.drewN nq
      clear HB0 HP HS HW
      generalize u.drewN nq = u2 at *
      have HB0 := Lib.hid hb; have HP := Lib.hid hp
      clear hb hp
      go_wp2
      refine bodyPost_ret (results_tmp3 rfl _ _ _) rfl ?_
      exact takes_none HE.out (by decide) HB0.out
end Go.Proofs.YtnbhgnkkedainaaDoor
