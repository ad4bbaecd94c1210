/- usufructlaw10.WireAll returns true for every input: what a format can say a greater one can, too; what it leaves of what it left is that. No condition. -/
import Derived.Test.YtofngihdnjgmeaaLWk
import Derived.WalkKit
import Derived.ProofKit
import Derived.OpenShut
import Derived.ChangeOld
import Derived.Below
namespace Go.Proofs.Ytofngihdnjgmeaa.wireAll
open Go.ChangeShapes Go.WideShapes Go.ChangeAt Go.RowKit
set_option linter.unusedVariables false

theorem own : ownKnob Try.prog.godebug = none := by kernel_rfl
theorem laidOut : laidOutB Try.prog = true := by kernel_rfl

set_option maxHeartbeats 8000000 in
theorem all_1 (p1 : Pf) (A1 : Option Addr) (c1 : Nat) (hp1 : p1.full) (w : World) (hrow : Row w A1 p1.hs.length p1.hs) (hfew : fewP p1 = true) (z1 : p1.nm.size ≤ 100) (z2 : p1.hs.length ≤ 40) :
    Calls Try.prog 6 #[.int .i64 1, .agg (p1.fd A1 c1).cells.toArray] w fun e w' => e = .returned (.bool true) ∧ Below w.heap.size w w' := by
  have HFEW := Lib.hid hfew
  have HF := Lib.hid hp1
  have HK := Lib.hid (KeepF.start (w := w) (rows := [(A1, p1.hs.length, p1.hs)]) (by simpa using hrow))
  have hN : p1.nm.size ≤ 1000 := by omega
  have hdn0 := dn_t 1 (by decide) p1 hp1 hN
  have HG0 := dP_full hp1 1
  cases hr : rightP p1 with
  | false =>
    have hs1 := fun w h => says_any 1 (by decide) p1 hp1 hN A1 c1 false (by rw [says_eq, saysR, hr]; rfl) w h
    have hE : dnErr 1 p1 = 1 := by simp [dnErr, hr]
    have hP : dP 1 p1 = zP := by simp [dP, hE]
    rw [hE, hP] at hdn0
    have hdn := hdn0 A1 c1
    have hdz := fun A c w h => dn_t 1 (by decide) zP zP_full (by decide) A c w h
    have HZ := Lib.hid zP_full
    have HG := Lib.hid (dP_full zP_full 1)
    generalize dE 1 p1 = E2 at hdn
    generalize dH 1 p1 = H2 at hdn
    generalize dP 1 zP = g at hdz HG
    generalize dE 1 zP = E3 at hdz
    generalize dH 1 zP = H3 at hdz
    generalize dnErr 1 zP = E4 at hdz
    clear hdn0 HG0 hr hrow hfew z1 z2 hN hp1 hE hP
    go_enter Try.func6, Try.ntmps6
    go_wp2_with (first
      | (with_reducible refine box_f HK.out rfl _ rfl rfl ?_; intro b1 u hk; clear HK; have HK := Lib.hid hk; clear hk)
      | (with_reducible refine load_fr HK.out 0 Try.underlying33 rfl (Pf.infoF HF.out) _ rfl rfl rfl rfl Pf.all ?_)
      | (with_reducible refine build_f1 HK.out rfl _ rfl HF.out rfl ?_; intro b2 u hk; clear HK; have HK := Lib.hid hk; clear hk)
      | (go_at_call 7; (with_reducible refine (few_f p1 HF.out A1 c1 _ _ HFEW.out _ (HK.out.get 0 rfl)).mono ?_); rintro e u ⟨rfl, hb⟩; have hk := HK.out.call hb; clear hb; clear HK; have HK := Lib.hid hk; clear hk)
      | (with_reducible refine load_fr HK.out 1 Try.underlying33 rfl (Pf.infoF HF.out) _ rfl rfl rfl rfl Pf.all ?_)
      | (go_at_call 15; (with_reducible refine (hs1 _ (HK.out.rowAt 0 rfl)).mono ?_); rintro e u ⟨rfl, hb⟩; have hk := HK.out.call hb; clear hb; clear HK; have HK := Lib.hid hk; clear hk)
      | (go_at_call 9; (with_reducible refine (hdn _ (HK.out.rowAt 0 rfl)).mono ?_); rintro e u ⟨A5, c5, B5, d5, rfl, r1, f1, r2, f2, hb⟩; have hk := HK.out.fresh2 hb r1 f1 r2 f2; clear hdn hb r1 f1 r2 f2; clear HK; have HK := Lib.hid hk; clear hk)
      | (with_reducible refine alloc_f HK.out f_zeroP rfl rfl ?_; intro bz u hk; clear HK; have HK := Lib.hid hk; clear hk)
      | (with_reducible refine alloc_f HK.out rs_zero rfl rfl ?_; intro by1 u hk; clear HK; have HK := Lib.hid hk; clear hk)
      | (with_reducible refine store_fr HK.out 1 (Pf.infoF HZ.out) (Fd.one _) rfl rfl _ _ rfl rfl rfl rfl (Fd.leP zP_full HZ.out) (Fd.setAllP zP_full HZ.out) ?_; intro u hk; simp only [List.set_cons_zero, List.set_cons_succ] at hk; clear HK; have HK := Lib.hid hk; clear hk)
      | (with_reducible refine store_fr HK.out 0 (rs_info _ _ _ _) (rs_one _ _ _ _) rfl rfl _ _ rfl rfl rfl rfl (rs_le _ _ _ _ _ _ _ _) (rs_put _ _ _ _ _ _ _ _) ?_; intro u hk; simp only [List.set_cons_zero] at hk; clear HK; have HK := Lib.hid hk; clear hk)
      | (with_reducible refine load_fr HK.out 1 Try.underlying33 rfl (Pf.infoF HZ.out) _ rfl rfl rfl rfl Pf.all ?_)
      | (go_at_call 9; (with_reducible refine (hdz _ _ _ (HK.out.rowAt 0 rfl)).mono ?_); rintro e u ⟨A6, c6, B6, d6, rfl, r1, f1, r2, f2, hb⟩; have hk := HK.out.fresh2 hb r1 f1 r2 f2; clear hb r1 f1 r2 f2; clear HK; have HK := Lib.hid hk; clear hk)
      | (with_reducible refine store_fr HK.out 1 (Pf.infoF HG.out) (Fd.one _) rfl rfl _ _ rfl rfl rfl rfl (Fd.leP zP_full HG.out) (Fd.setAllP zP_full HG.out) ?_; intro u hk; simp only [List.set_cons_zero, List.set_cons_succ] at hk; clear HK; have HK := Lib.hid hk; clear hk)
      | (go_at_call 8; (with_reducible refine (awake_any _).mono ?_); rintro e u ⟨rfl, hb⟩; have hk := HK.out.call hb; clear hb; clear HK; have HK := Lib.hid hk; clear hk))
    go_ret
    exact ⟨rfl, HK.out.bel⟩
  | true =>
    have e0 : dnErr 1 p1 = 0 := by simp [dnErr, hr]; decide
    obtain ⟨y1, y2, y3, y4⟩ := dn_C e0
    obtain ⟨g1, g2⟩ := dn_right (v := 1) hr rfl
    obtain ⟨x1, x2, x3⟩ := dn_dn (v := 1) hr rfl
    have hdz0 := dn_t 1 (by decide) (dP 1 p1) HG0 (by rw [y3]; exact hN)
    rw [x1, x2, x3, (dn_right (v := 1) g1 rfl).2] at hdz0
    rw [e0, show dE 1 p1 = p1.e by simp [dE, e0]] at hdn0
    have hdn := hdn0 A1 c1
    have hdz := fun A c w h => hdz0 A c w h
    have HG := Lib.hid HG0
    have hsm := fun A B c d w k1 k2 => rsame_any (dP 1 p1) HG0 A B c d w k1 k2
    have hz0 : (([] : List Ho).length : Int) = 0 := rfl
    generalize dH 1 p1 = H2 at hdn
    generalize dP 1 p1 = g at hdn HG hdz hsm
    have hns : saysB 1 p1 = true → saysB 2 p1 = true := by
      rw [says_eq, says_eq]
      simp [saysR, hr, verB]
      try (intro h _; exact h)
    cases hq : saysB 1 p1 with
    | false =>
      have hs1 := fun w h => says_any 1 (by decide) p1 hp1 hN A1 c1 false hq w h
      clear hdn0 hdz0 HG0 hr hrow hfew z1 z2 hN hp1 e0 y1 y2 y3 y4 g1 g2 x1 x2 x3 hns hq
      go_enter Try.func6, Try.ntmps6
      go_wp2_with (first
        | (with_reducible refine box_f HK.out rfl _ rfl rfl ?_; intro b1 u hk; clear HK; have HK := Lib.hid hk; clear hk)
        | (with_reducible refine load_fr HK.out 0 Try.underlying33 rfl (Pf.infoF HF.out) _ rfl rfl rfl rfl Pf.all ?_)
        | (with_reducible refine build_f1 HK.out rfl _ rfl HF.out rfl ?_; intro b2 u hk; clear HK; have HK := Lib.hid hk; clear hk)
        | (go_at_call 7; (with_reducible refine (few_f p1 HF.out A1 c1 _ _ HFEW.out _ (HK.out.get 0 rfl)).mono ?_); rintro e u ⟨rfl, hb⟩; have hk := HK.out.call hb; clear hb; clear HK; have HK := Lib.hid hk; clear hk)
        | (with_reducible refine load_fr HK.out 1 Try.underlying33 rfl (Pf.infoF HF.out) _ rfl rfl rfl rfl Pf.all ?_)
        | (go_at_call 15; (with_reducible refine (hs1 _ (HK.out.rowAt 0 rfl)).mono ?_); rintro e u ⟨rfl, hb⟩; have hk := HK.out.call hb; clear hb; clear HK; have HK := Lib.hid hk; clear hk)
        | (go_at_call 9; (with_reducible refine (hdn _ (HK.out.rowAt 0 rfl)).mono ?_); rintro e u ⟨A5, c5, B5, d5, rfl, r1, f1, r2, f2, hb⟩; have hk := HK.out.fresh2 hb r1 f1 r2 f2; clear hdn hb r1 f1 r2 f2; clear HK; have HK := Lib.hid hk; clear hk)
        | (with_reducible refine alloc_f HK.out f_zeroP rfl rfl ?_; intro bz u hk; clear HK; have HK := Lib.hid hk; clear hk)
        | (with_reducible refine alloc_f HK.out rs_zero rfl rfl ?_; intro by1 u hk; clear HK; have HK := Lib.hid hk; clear hk)
        | (with_reducible refine store_fr HK.out 1 (Pf.infoF HG.out) (Fd.one _) rfl rfl _ _ rfl rfl rfl rfl (Fd.leP zP_full HG.out) (Fd.setAllP zP_full HG.out) ?_; intro u hk; simp only [List.set_cons_zero, List.set_cons_succ] at hk; clear HK; have HK := Lib.hid hk; clear hk)
        | (with_reducible refine store_fr HK.out 0 (rs_info _ _ _ _) (rs_one _ _ _ _) rfl rfl _ _ rfl rfl rfl rfl (rs_le _ _ _ _ _ _ _ _) (rs_put _ _ _ _ _ _ _ _) ?_; intro u hk; simp only [List.set_cons_zero] at hk; clear HK; have HK := Lib.hid hk; clear hk)
        | (with_reducible refine load_fr HK.out 1 Try.underlying33 rfl (Pf.infoF HG.out) _ rfl rfl rfl rfl Pf.all ?_)
        | (go_at_call 9; (with_reducible refine (hdz _ _ _ (HK.out.rowAt 0 rfl)).mono ?_); rintro e u ⟨A6, c6, B6, d6, rfl, r1, f1, r2, f2, hb⟩; have hk := HK.out.fresh2 hb r1 f1 r2 f2; clear hb r1 f1 r2 f2; clear HK; have HK := Lib.hid hk; clear hk)
        | (with_reducible refine store_fr HK.out 1 (Pf.infoF HG.out) (Fd.one _) rfl rfl _ _ rfl rfl rfl rfl (Fd.leP zP_full HG.out) (Fd.setAllP zP_full HG.out) ?_; intro u hk; simp only [List.set_cons_zero, List.set_cons_succ] at hk; clear HK; have HK := Lib.hid hk; clear hk)
        | (with_reducible refine load_fr HK.out 3 Try.underlying33 rfl (Pf.infoF HG.out) _ rfl rfl rfl rfl Pf.all ?_)
        | (with_reducible refine load_fr HK.out 1 Try.underlying33 rfl (Pf.infoF HG.out) _ rfl rfl rfl rfl Pf.all ?_)
        | (go_at_call 11; (with_reducible refine (hsm _ _ _ _ _ (HK.out.rowAt 2 rfl) (HK.out.rowAt 0 rfl)).mono ?_); rintro e u ⟨rfl, hb⟩; have hk := HK.out.call hb; clear hb; clear HK; have HK := Lib.hid hk; clear hk)
        | (with_reducible refine load_f1 HK.out 0 cbI _ rfl rfl rfl rfl rs_c0 ?_)
        | (with_reducible refine load_f1 HK.out 0 cbH _ rfl rfl rfl rfl rs_c1 ?_)
        | (with_reducible refine load_f1 HK.out 2 cbI _ rfl rfl rfl rfl rs_c0 ?_)
        | (with_reducible refine load_f1 HK.out 5 cbI _ rfl rfl rfl rfl Pf.ce ?_)
        | (go_at_call 8; (with_reducible refine (awake_any _).mono ?_); rintro e u ⟨rfl, hb⟩; have hk := HK.out.call hb; clear hb; clear HK; have HK := Lib.hid hk; clear hk))
      go_ret
      exact ⟨rfl, HK.out.bel⟩
    | true =>
      have hs1 := fun w h => says_any 1 (by decide) p1 hp1 hN A1 c1 true hq w h
      have hs2 := fun w h => says_any 2 (by decide) p1 hp1 hN A1 c1 true (hns hq) w h
      clear hdn0 hdz0 HG0 hr hrow hfew z1 z2 hN hp1 e0 y1 y2 y3 y4 g1 g2 x1 x2 x3 hns hq
      go_enter Try.func6, Try.ntmps6
      go_wp2_with (first
        | (with_reducible refine box_f HK.out rfl _ rfl rfl ?_; intro b1 u hk; clear HK; have HK := Lib.hid hk; clear hk)
        | (with_reducible refine load_fr HK.out 0 Try.underlying33 rfl (Pf.infoF HF.out) _ rfl rfl rfl rfl Pf.all ?_)
        | (with_reducible refine build_f1 HK.out rfl _ rfl HF.out rfl ?_; intro b2 u hk; clear HK; have HK := Lib.hid hk; clear hk)
        | (go_at_call 7; (with_reducible refine (few_f p1 HF.out A1 c1 _ _ HFEW.out _ (HK.out.get 0 rfl)).mono ?_); rintro e u ⟨rfl, hb⟩; have hk := HK.out.call hb; clear hb; clear HK; have HK := Lib.hid hk; clear hk)
        | (with_reducible refine load_fr HK.out 1 Try.underlying33 rfl (Pf.infoF HF.out) _ rfl rfl rfl rfl Pf.all ?_)
        | (go_at_call 15; (with_reducible refine (hs1 _ (HK.out.rowAt 0 rfl)).mono ?_); rintro e u ⟨rfl, hb⟩; have hk := HK.out.call hb; clear hb; clear HK; have HK := Lib.hid hk; clear hk)
        | (go_at_call 15; (with_reducible refine (hs2 _ (HK.out.rowAt 0 rfl)).mono ?_); rintro e u ⟨rfl, hb⟩; have hk := HK.out.call hb; clear hb; clear HK; have HK := Lib.hid hk; clear hk)
        | (go_at_call 9; (with_reducible refine (hdn _ (HK.out.rowAt 0 rfl)).mono ?_); rintro e u ⟨A5, c5, B5, d5, rfl, r1, f1, r2, f2, hb⟩; have hk := HK.out.fresh2 hb r1 f1 r2 f2; clear hdn hb r1 f1 r2 f2; clear HK; have HK := Lib.hid hk; clear hk)
        | (with_reducible refine alloc_f HK.out f_zeroP rfl rfl ?_; intro bz u hk; clear HK; have HK := Lib.hid hk; clear hk)
        | (with_reducible refine alloc_f HK.out rs_zero rfl rfl ?_; intro by1 u hk; clear HK; have HK := Lib.hid hk; clear hk)
        | (with_reducible refine store_fr HK.out 1 (Pf.infoF HG.out) (Fd.one _) rfl rfl _ _ rfl rfl rfl rfl (Fd.leP zP_full HG.out) (Fd.setAllP zP_full HG.out) ?_; intro u hk; simp only [List.set_cons_zero, List.set_cons_succ] at hk; clear HK; have HK := Lib.hid hk; clear hk)
        | (with_reducible refine store_fr HK.out 0 (rs_info _ _ _ _) (rs_one _ _ _ _) rfl rfl _ _ rfl rfl rfl rfl (rs_le _ _ _ _ _ _ _ _) (rs_put _ _ _ _ _ _ _ _) ?_; intro u hk; simp only [List.set_cons_zero] at hk; clear HK; have HK := Lib.hid hk; clear hk)
        | (with_reducible refine load_fr HK.out 1 Try.underlying33 rfl (Pf.infoF HG.out) _ rfl rfl rfl rfl Pf.all ?_)
        | (go_at_call 9; (with_reducible refine (hdz _ _ _ (HK.out.rowAt 0 rfl)).mono ?_); rintro e u ⟨A6, c6, B6, d6, rfl, r1, f1, r2, f2, hb⟩; have hk := HK.out.fresh2 hb r1 f1 r2 f2; clear hb r1 f1 r2 f2; clear HK; have HK := Lib.hid hk; clear hk)
        | (with_reducible refine store_fr HK.out 1 (Pf.infoF HG.out) (Fd.one _) rfl rfl _ _ rfl rfl rfl rfl (Fd.leP zP_full HG.out) (Fd.setAllP zP_full HG.out) ?_; intro u hk; simp only [List.set_cons_zero, List.set_cons_succ] at hk; clear HK; have HK := Lib.hid hk; clear hk)
        | (with_reducible refine load_fr HK.out 3 Try.underlying33 rfl (Pf.infoF HG.out) _ rfl rfl rfl rfl Pf.all ?_)
        | (with_reducible refine load_fr HK.out 1 Try.underlying33 rfl (Pf.infoF HG.out) _ rfl rfl rfl rfl Pf.all ?_)
        | (go_at_call 11; (with_reducible refine (hsm _ _ _ _ _ (HK.out.rowAt 2 rfl) (HK.out.rowAt 0 rfl)).mono ?_); rintro e u ⟨rfl, hb⟩; have hk := HK.out.call hb; clear hb; clear HK; have HK := Lib.hid hk; clear hk)
        | (with_reducible refine load_f1 HK.out 0 cbI _ rfl rfl rfl rfl rs_c0 ?_)
        | (with_reducible refine load_f1 HK.out 0 cbH _ rfl rfl rfl rfl rs_c1 ?_)
        | (with_reducible refine load_f1 HK.out 2 cbI _ rfl rfl rfl rfl rs_c0 ?_)
        | (with_reducible refine load_f1 HK.out 5 cbI _ rfl rfl rfl rfl Pf.ce ?_)
        | (go_at_call 8; (with_reducible refine (awake_any _).mono ?_); rintro e u ⟨rfl, hb⟩; have hk := HK.out.call hb; clear hb; clear HK; have HK := Lib.hid hk; clear hk))
      go_ret
      exact ⟨rfl, HK.out.bel⟩
set_option maxHeartbeats 8000000 in
theorem all_2 (p1 : Pf) (A1 : Option Addr) (c1 : Nat) (hp1 : p1.full) (w : World) (hrow : Row w A1 p1.hs.length p1.hs) (hfew : fewP p1 = true) (z1 : p1.nm.size ≤ 100) (z2 : p1.hs.length ≤ 40) :
    Calls Try.prog 6 #[.int .i64 2, .agg (p1.fd A1 c1).cells.toArray] w fun e w' => e = .returned (.bool true) ∧ Below w.heap.size w w' := by
  have HFEW := Lib.hid hfew
  have HF := Lib.hid hp1
  have HK := Lib.hid (KeepF.start (w := w) (rows := [(A1, p1.hs.length, p1.hs)]) (by simpa using hrow))
  have hN : p1.nm.size ≤ 1000 := by omega
  have hdn0 := dn_t 2 (by decide) p1 hp1 hN
  have HG0 := dP_full hp1 2
  cases hr : rightP p1 with
  | false =>
    have hs1 := fun w h => says_any 2 (by decide) p1 hp1 hN A1 c1 false (by rw [says_eq, saysR, hr]; rfl) w h
    have hE : dnErr 2 p1 = 1 := by simp [dnErr, hr]
    have hP : dP 2 p1 = zP := by simp [dP, hE]
    rw [hE, hP] at hdn0
    have hdn := hdn0 A1 c1
    have hdz := fun A c w h => dn_t 2 (by decide) zP zP_full (by decide) A c w h
    have HZ := Lib.hid zP_full
    have HG := Lib.hid (dP_full zP_full 2)
    generalize dE 2 p1 = E2 at hdn
    generalize dH 2 p1 = H2 at hdn
    generalize dP 2 zP = g at hdz HG
    generalize dE 2 zP = E3 at hdz
    generalize dH 2 zP = H3 at hdz
    generalize dnErr 2 zP = E4 at hdz
    clear hdn0 HG0 hr hrow hfew z1 z2 hN hp1 hE hP
    go_enter Try.func6, Try.ntmps6
    go_wp2_with (first
      | (with_reducible refine box_f HK.out rfl _ rfl rfl ?_; intro b1 u hk; clear HK; have HK := Lib.hid hk; clear hk)
      | (with_reducible refine load_fr HK.out 0 Try.underlying33 rfl (Pf.infoF HF.out) _ rfl rfl rfl rfl Pf.all ?_)
      | (with_reducible refine build_f1 HK.out rfl _ rfl HF.out rfl ?_; intro b2 u hk; clear HK; have HK := Lib.hid hk; clear hk)
      | (go_at_call 7; (with_reducible refine (few_f p1 HF.out A1 c1 _ _ HFEW.out _ (HK.out.get 0 rfl)).mono ?_); rintro e u ⟨rfl, hb⟩; have hk := HK.out.call hb; clear hb; clear HK; have HK := Lib.hid hk; clear hk)
      | (with_reducible refine load_fr HK.out 1 Try.underlying33 rfl (Pf.infoF HF.out) _ rfl rfl rfl rfl Pf.all ?_)
      | (go_at_call 15; (with_reducible refine (hs1 _ (HK.out.rowAt 0 rfl)).mono ?_); rintro e u ⟨rfl, hb⟩; have hk := HK.out.call hb; clear hb; clear HK; have HK := Lib.hid hk; clear hk)
      | (go_at_call 9; (with_reducible refine (hdn _ (HK.out.rowAt 0 rfl)).mono ?_); rintro e u ⟨A5, c5, B5, d5, rfl, r1, f1, r2, f2, hb⟩; have hk := HK.out.fresh2 hb r1 f1 r2 f2; clear hdn hb r1 f1 r2 f2; clear HK; have HK := Lib.hid hk; clear hk)
      | (with_reducible refine alloc_f HK.out f_zeroP rfl rfl ?_; intro bz u hk; clear HK; have HK := Lib.hid hk; clear hk)
      | (with_reducible refine alloc_f HK.out rs_zero rfl rfl ?_; intro by1 u hk; clear HK; have HK := Lib.hid hk; clear hk)
      | (with_reducible refine store_fr HK.out 1 (Pf.infoF HZ.out) (Fd.one _) rfl rfl _ _ rfl rfl rfl rfl (Fd.leP zP_full HZ.out) (Fd.setAllP zP_full HZ.out) ?_; intro u hk; simp only [List.set_cons_zero, List.set_cons_succ] at hk; clear HK; have HK := Lib.hid hk; clear hk)
      | (with_reducible refine store_fr HK.out 0 (rs_info _ _ _ _) (rs_one _ _ _ _) rfl rfl _ _ rfl rfl rfl rfl (rs_le _ _ _ _ _ _ _ _) (rs_put _ _ _ _ _ _ _ _) ?_; intro u hk; simp only [List.set_cons_zero] at hk; clear HK; have HK := Lib.hid hk; clear hk)
      | (with_reducible refine load_fr HK.out 1 Try.underlying33 rfl (Pf.infoF HZ.out) _ rfl rfl rfl rfl Pf.all ?_)
      | (go_at_call 9; (with_reducible refine (hdz _ _ _ (HK.out.rowAt 0 rfl)).mono ?_); rintro e u ⟨A6, c6, B6, d6, rfl, r1, f1, r2, f2, hb⟩; have hk := HK.out.fresh2 hb r1 f1 r2 f2; clear hb r1 f1 r2 f2; clear HK; have HK := Lib.hid hk; clear hk)
      | (with_reducible refine store_fr HK.out 1 (Pf.infoF HG.out) (Fd.one _) rfl rfl _ _ rfl rfl rfl rfl (Fd.leP zP_full HG.out) (Fd.setAllP zP_full HG.out) ?_; intro u hk; simp only [List.set_cons_zero, List.set_cons_succ] at hk; clear HK; have HK := Lib.hid hk; clear hk)
      | (go_at_call 8; (with_reducible refine (awake_any _).mono ?_); rintro e u ⟨rfl, hb⟩; have hk := HK.out.call hb; clear hb; clear HK; have HK := Lib.hid hk; clear hk))
    go_ret
    exact ⟨rfl, HK.out.bel⟩
  | true =>
    have e0 : dnErr 2 p1 = 0 := by simp [dnErr, hr]; decide
    obtain ⟨y1, y2, y3, y4⟩ := dn_C e0
    obtain ⟨g1, g2⟩ := dn_right (v := 2) hr rfl
    obtain ⟨x1, x2, x3⟩ := dn_dn (v := 2) hr rfl
    have hdz0 := dn_t 2 (by decide) (dP 2 p1) HG0 (by rw [y3]; exact hN)
    rw [x1, x2, x3, (dn_right (v := 2) g1 rfl).2] at hdz0
    rw [e0, show dE 2 p1 = p1.e by simp [dE, e0]] at hdn0
    have hdn := hdn0 A1 c1
    have hdz := fun A c w h => hdz0 A c w h
    have HG := Lib.hid HG0
    have hsm := fun A B c d w k1 k2 => rsame_any (dP 2 p1) HG0 A B c d w k1 k2
    have hz0 : (([] : List Ho).length : Int) = 0 := rfl
    generalize dH 2 p1 = H2 at hdn
    generalize dP 2 p1 = g at hdn HG hdz hsm
    have hns : saysB 2 p1 = true → saysB 3 p1 = true := by
      rw [says_eq, says_eq]
      simp [saysR, hr, verB]
      try (intro h _; exact h)
    cases hq : saysB 2 p1 with
    | false =>
      have hs1 := fun w h => says_any 2 (by decide) p1 hp1 hN A1 c1 false hq w h
      clear hdn0 hdz0 HG0 hr hrow hfew z1 z2 hN hp1 e0 y1 y2 y3 y4 g1 g2 x1 x2 x3 hns hq
      go_enter Try.func6, Try.ntmps6
      go_wp2_with (first
        | (with_reducible refine box_f HK.out rfl _ rfl rfl ?_; intro b1 u hk; clear HK; have HK := Lib.hid hk; clear hk)
        | (with_reducible refine load_fr HK.out 0 Try.underlying33 rfl (Pf.infoF HF.out) _ rfl rfl rfl rfl Pf.all ?_)
        | (with_reducible refine build_f1 HK.out rfl _ rfl HF.out rfl ?_; intro b2 u hk; clear HK; have HK := Lib.hid hk; clear hk)
        | (go_at_call 7; (with_reducible refine (few_f p1 HF.out A1 c1 _ _ HFEW.out _ (HK.out.get 0 rfl)).mono ?_); rintro e u ⟨rfl, hb⟩; have hk := HK.out.call hb; clear hb; clear HK; have HK := Lib.hid hk; clear hk)
        | (with_reducible refine load_fr HK.out 1 Try.underlying33 rfl (Pf.infoF HF.out) _ rfl rfl rfl rfl Pf.all ?_)
        | (go_at_call 15; (with_reducible refine (hs1 _ (HK.out.rowAt 0 rfl)).mono ?_); rintro e u ⟨rfl, hb⟩; have hk := HK.out.call hb; clear hb; clear HK; have HK := Lib.hid hk; clear hk)
        | (go_at_call 9; (with_reducible refine (hdn _ (HK.out.rowAt 0 rfl)).mono ?_); rintro e u ⟨A5, c5, B5, d5, rfl, r1, f1, r2, f2, hb⟩; have hk := HK.out.fresh2 hb r1 f1 r2 f2; clear hdn hb r1 f1 r2 f2; clear HK; have HK := Lib.hid hk; clear hk)
        | (with_reducible refine alloc_f HK.out f_zeroP rfl rfl ?_; intro bz u hk; clear HK; have HK := Lib.hid hk; clear hk)
        | (with_reducible refine alloc_f HK.out rs_zero rfl rfl ?_; intro by1 u hk; clear HK; have HK := Lib.hid hk; clear hk)
        | (with_reducible refine store_fr HK.out 1 (Pf.infoF HG.out) (Fd.one _) rfl rfl _ _ rfl rfl rfl rfl (Fd.leP zP_full HG.out) (Fd.setAllP zP_full HG.out) ?_; intro u hk; simp only [List.set_cons_zero, List.set_cons_succ] at hk; clear HK; have HK := Lib.hid hk; clear hk)
        | (with_reducible refine store_fr HK.out 0 (rs_info _ _ _ _) (rs_one _ _ _ _) rfl rfl _ _ rfl rfl rfl rfl (rs_le _ _ _ _ _ _ _ _) (rs_put _ _ _ _ _ _ _ _) ?_; intro u hk; simp only [List.set_cons_zero] at hk; clear HK; have HK := Lib.hid hk; clear hk)
        | (with_reducible refine load_fr HK.out 1 Try.underlying33 rfl (Pf.infoF HG.out) _ rfl rfl rfl rfl Pf.all ?_)
        | (go_at_call 9; (with_reducible refine (hdz _ _ _ (HK.out.rowAt 0 rfl)).mono ?_); rintro e u ⟨A6, c6, B6, d6, rfl, r1, f1, r2, f2, hb⟩; have hk := HK.out.fresh2 hb r1 f1 r2 f2; clear hb r1 f1 r2 f2; clear HK; have HK := Lib.hid hk; clear hk)
        | (with_reducible refine store_fr HK.out 1 (Pf.infoF HG.out) (Fd.one _) rfl rfl _ _ rfl rfl rfl rfl (Fd.leP zP_full HG.out) (Fd.setAllP zP_full HG.out) ?_; intro u hk; simp only [List.set_cons_zero, List.set_cons_succ] at hk; clear HK; have HK := Lib.hid hk; clear hk)
        | (with_reducible refine load_fr HK.out 3 Try.underlying33 rfl (Pf.infoF HG.out) _ rfl rfl rfl rfl Pf.all ?_)
        | (with_reducible refine load_fr HK.out 1 Try.underlying33 rfl (Pf.infoF HG.out) _ rfl rfl rfl rfl Pf.all ?_)
        | (go_at_call 11; (with_reducible refine (hsm _ _ _ _ _ (HK.out.rowAt 2 rfl) (HK.out.rowAt 0 rfl)).mono ?_); rintro e u ⟨rfl, hb⟩; have hk := HK.out.call hb; clear hb; clear HK; have HK := Lib.hid hk; clear hk)
        | (with_reducible refine load_f1 HK.out 0 cbI _ rfl rfl rfl rfl rs_c0 ?_)
        | (with_reducible refine load_f1 HK.out 0 cbH _ rfl rfl rfl rfl rs_c1 ?_)
        | (with_reducible refine load_f1 HK.out 2 cbI _ rfl rfl rfl rfl rs_c0 ?_)
        | (with_reducible refine load_f1 HK.out 5 cbI _ rfl rfl rfl rfl Pf.ce ?_)
        | (go_at_call 8; (with_reducible refine (awake_any _).mono ?_); rintro e u ⟨rfl, hb⟩; have hk := HK.out.call hb; clear hb; clear HK; have HK := Lib.hid hk; clear hk))
      go_ret
      exact ⟨rfl, HK.out.bel⟩
    | true =>
      have hs1 := fun w h => says_any 2 (by decide) p1 hp1 hN A1 c1 true hq w h
      have hs2 := fun w h => says_any 3 (by decide) p1 hp1 hN A1 c1 true (hns hq) w h
      clear hdn0 hdz0 HG0 hr hrow hfew z1 z2 hN hp1 e0 y1 y2 y3 y4 g1 g2 x1 x2 x3 hns hq
      go_enter Try.func6, Try.ntmps6
      go_wp2_with (first
        | (with_reducible refine box_f HK.out rfl _ rfl rfl ?_; intro b1 u hk; clear HK; have HK := Lib.hid hk; clear hk)
        | (with_reducible refine load_fr HK.out 0 Try.underlying33 rfl (Pf.infoF HF.out) _ rfl rfl rfl rfl Pf.all ?_)
        | (with_reducible refine build_f1 HK.out rfl _ rfl HF.out rfl ?_; intro b2 u hk; clear HK; have HK := Lib.hid hk; clear hk)
        | (go_at_call 7; (with_reducible refine (few_f p1 HF.out A1 c1 _ _ HFEW.out _ (HK.out.get 0 rfl)).mono ?_); rintro e u ⟨rfl, hb⟩; have hk := HK.out.call hb; clear hb; clear HK; have HK := Lib.hid hk; clear hk)
        | (with_reducible refine load_fr HK.out 1 Try.underlying33 rfl (Pf.infoF HF.out) _ rfl rfl rfl rfl Pf.all ?_)
        | (go_at_call 15; (with_reducible refine (hs1 _ (HK.out.rowAt 0 rfl)).mono ?_); rintro e u ⟨rfl, hb⟩; have hk := HK.out.call hb; clear hb; clear HK; have HK := Lib.hid hk; clear hk)
        | (go_at_call 15; (with_reducible refine (hs2 _ (HK.out.rowAt 0 rfl)).mono ?_); rintro e u ⟨rfl, hb⟩; have hk := HK.out.call hb; clear hb; clear HK; have HK := Lib.hid hk; clear hk)
        | (go_at_call 9; (with_reducible refine (hdn _ (HK.out.rowAt 0 rfl)).mono ?_); rintro e u ⟨A5, c5, B5, d5, rfl, r1, f1, r2, f2, hb⟩; have hk := HK.out.fresh2 hb r1 f1 r2 f2; clear hdn hb r1 f1 r2 f2; clear HK; have HK := Lib.hid hk; clear hk)
        | (with_reducible refine alloc_f HK.out f_zeroP rfl rfl ?_; intro bz u hk; clear HK; have HK := Lib.hid hk; clear hk)
        | (with_reducible refine alloc_f HK.out rs_zero rfl rfl ?_; intro by1 u hk; clear HK; have HK := Lib.hid hk; clear hk)
        | (with_reducible refine store_fr HK.out 1 (Pf.infoF HG.out) (Fd.one _) rfl rfl _ _ rfl rfl rfl rfl (Fd.leP zP_full HG.out) (Fd.setAllP zP_full HG.out) ?_; intro u hk; simp only [List.set_cons_zero, List.set_cons_succ] at hk; clear HK; have HK := Lib.hid hk; clear hk)
        | (with_reducible refine store_fr HK.out 0 (rs_info _ _ _ _) (rs_one _ _ _ _) rfl rfl _ _ rfl rfl rfl rfl (rs_le _ _ _ _ _ _ _ _) (rs_put _ _ _ _ _ _ _ _) ?_; intro u hk; simp only [List.set_cons_zero] at hk; clear HK; have HK := Lib.hid hk; clear hk)
        | (with_reducible refine load_fr HK.out 1 Try.underlying33 rfl (Pf.infoF HG.out) _ rfl rfl rfl rfl Pf.all ?_)
        | (go_at_call 9; (with_reducible refine (hdz _ _ _ (HK.out.rowAt 0 rfl)).mono ?_); rintro e u ⟨A6, c6, B6, d6, rfl, r1, f1, r2, f2, hb⟩; have hk := HK.out.fresh2 hb r1 f1 r2 f2; clear hb r1 f1 r2 f2; clear HK; have HK := Lib.hid hk; clear hk)
        | (with_reducible refine store_fr HK.out 1 (Pf.infoF HG.out) (Fd.one _) rfl rfl _ _ rfl rfl rfl rfl (Fd.leP zP_full HG.out) (Fd.setAllP zP_full HG.out) ?_; intro u hk; simp only [List.set_cons_zero, List.set_cons_succ] at hk; clear HK; have HK := Lib.hid hk; clear hk)
        | (with_reducible refine load_fr HK.out 3 Try.underlying33 rfl (Pf.infoF HG.out) _ rfl rfl rfl rfl Pf.all ?_)
        | (with_reducible refine load_fr HK.out 1 Try.underlying33 rfl (Pf.infoF HG.out) _ rfl rfl rfl rfl Pf.all ?_)
        | (go_at_call 11; (with_reducible refine (hsm _ _ _ _ _ (HK.out.rowAt 2 rfl) (HK.out.rowAt 0 rfl)).mono ?_); rintro e u ⟨rfl, hb⟩; have hk := HK.out.call hb; clear hb; clear HK; have HK := Lib.hid hk; clear hk)
        | (with_reducible refine load_f1 HK.out 0 cbI _ rfl rfl rfl rfl rs_c0 ?_)
        | (with_reducible refine load_f1 HK.out 0 cbH _ rfl rfl rfl rfl rs_c1 ?_)
        | (with_reducible refine load_f1 HK.out 2 cbI _ rfl rfl rfl rfl rs_c0 ?_)
        | (with_reducible refine load_f1 HK.out 5 cbI _ rfl rfl rfl rfl Pf.ce ?_)
        | (go_at_call 8; (with_reducible refine (awake_any _).mono ?_); rintro e u ⟨rfl, hb⟩; have hk := HK.out.call hb; clear hb; clear HK; have HK := Lib.hid hk; clear hk))
      go_ret
      exact ⟨rfl, HK.out.bel⟩

set_option maxRecDepth 100000 in
set_option maxHeartbeats 4000000 in
theorem walk (w : World) (a0 : Int) (w0 : (Lit.int .i64 a0).wf = true) (p1 : Pf) (A1 : Option Addr) (c1 : Nat) (hp1 : p1.full) (hd1 : Came w A1 p1.hs.length p1.hs) (hc1 : p1.hs.length ≤ c1) (hw1 : ∀ z ∈ p1.C, (Lit.int .i64 z).wf = true) :
    Calls Try.prog 6 #[.int .i64 a0, .agg (p1.fd A1 c1).cells.toArray] w fun e w' => e = .returned (.bool true) ∧ Below w.heap.size w w' := by
  have HK0 := KeepF.start (w := w) (rows := []) (by simp)
  cases hfew : fewP p1 with
  | false =>
    have HFEW := Lib.hid hfew
    have HF := Lib.hid hp1; clear hp1
    have HK := Lib.hid HK0
    clear hd1 HK0
    go_enter Try.func6, Try.ntmps6
    go_wp2_with (first
      | (with_reducible refine box_f HK.out rfl _ rfl rfl ?_; intro b1 u hk; clear HK; have HK := Lib.hid hk; clear hk)
      | (with_reducible refine load_fr HK.out 0 Try.underlying33 rfl (Pf.infoF HF.out) _ rfl rfl rfl rfl Pf.all ?_)
      | (with_reducible refine build_f1 HK.out rfl _ rfl HF.out rfl ?_; intro b2 u hk; clear HK; have HK := Lib.hid hk; clear hk)
      | (go_at_call 7; (with_reducible refine (few_f p1 HF.out A1 c1 _ _ HFEW.out _ (HK.out.get 0 rfl)).mono ?_); rintro e u ⟨rfl, hb⟩; have hk := HK.out.call hb; clear hb; clear HK; have HK := Lib.hid hk; clear hk)
      | (go_at_call 8; (with_reducible refine (awake_any _).mono ?_); rintro e u ⟨rfl, hb⟩; have hk := HK.out.call hb; clear hb; clear HK; have HK := Lib.hid hk; clear hk))
    go_ret
    exact ⟨rfl, HK.out.bel⟩
  | true =>
    obtain ⟨z1, z2⟩ := few_parts hfew
    have hrow := hd1.row (by omega)
    have HFEW := Lib.hid hfew
    have HF := Lib.hid hp1
    clear HK0
    have HK := Lib.hid (KeepF.start (w := w) (rows := [(A1, p1.hs.length, p1.hs)]) (by simpa using hrow))
    have hN : p1.nm.size ≤ 1000 := by omega
    by_cases h1 : a0 < 1
    · have G1 := Lib.hid (show decide (a0 < 1) = true by simpa using h1)
      clear hrow hd1 hfew z1 z2 hN hp1 h1
      go_enter Try.func6, Try.ntmps6
      go_wp2_with (first
        | (with_reducible refine box_f HK.out rfl _ rfl rfl ?_; intro b1 u hk; clear HK; have HK := Lib.hid hk; clear hk)
        | (with_reducible refine load_fr HK.out 0 Try.underlying33 rfl (Pf.infoF HF.out) _ rfl rfl rfl rfl Pf.all ?_)
        | (with_reducible refine build_f1 HK.out rfl _ rfl HF.out rfl ?_; intro b2 u hk; clear HK; have HK := Lib.hid hk; clear hk)
        | (go_at_call 7; (with_reducible refine (few_f p1 HF.out A1 c1 _ _ HFEW.out _ (HK.out.get 0 rfl)).mono ?_); rintro e u ⟨rfl, hb⟩; have hk := HK.out.call hb; clear hb; clear HK; have HK := Lib.hid hk; clear hk)
        | (with_reducible refine lss_want G1.out _ _ _ rfl rfl rfl rfl ?_)
        | (go_at_call 8; (with_reducible refine (awake_any _).mono ?_); rintro e u ⟨rfl, hb⟩; have hk := HK.out.call hb; clear hb; clear HK; have HK := Lib.hid hk; clear hk))
      go_ret
      exact ⟨rfl, HK.out.bel⟩
    · by_cases h2 : 2 < a0
      · have G1 := Lib.hid (show decide (a0 < 1) = false by simpa using h1)
        have G2 := Lib.hid (show decide (2 < a0) = true by simpa using h2)
        clear hrow hd1 hfew z1 z2 hN hp1 h1 h2
        go_enter Try.func6, Try.ntmps6
        go_wp2_with (first
          | (with_reducible refine box_f HK.out rfl _ rfl rfl ?_; intro b1 u hk; clear HK; have HK := Lib.hid hk; clear hk)
          | (with_reducible refine load_fr HK.out 0 Try.underlying33 rfl (Pf.infoF HF.out) _ rfl rfl rfl rfl Pf.all ?_)
          | (with_reducible refine build_f1 HK.out rfl _ rfl HF.out rfl ?_; intro b2 u hk; clear HK; have HK := Lib.hid hk; clear hk)
          | (go_at_call 7; (with_reducible refine (few_f p1 HF.out A1 c1 _ _ HFEW.out _ (HK.out.get 0 rfl)).mono ?_); rintro e u ⟨rfl, hb⟩; have hk := HK.out.call hb; clear hb; clear HK; have HK := Lib.hid hk; clear hk)
          | (with_reducible refine lss_want G1.out _ _ _ rfl rfl rfl rfl ?_)
          | (with_reducible refine gtr_want G2.out _ _ _ rfl rfl rfl rfl ?_)
          | (go_at_call 8; (with_reducible refine (awake_any _).mono ?_); rintro e u ⟨rfl, hb⟩; have hk := HK.out.call hb; clear hb; clear HK; have HK := Lib.hid hk; clear hk))
        go_ret
        exact ⟨rfl, HK.out.bel⟩
      · have hv : a0 = 1 ∨ a0 = 2 := by omega
        clear h1 h2
        rcases hv with rfl | rfl
        · exact all_1 p1 A1 c1 hp1 w hrow hfew z1 z2
        · exact all_2 p1 A1 c1 hp1 w hrow hfew z1 z2

set_option maxRecDepth 100000 in
theorem lifted (os : Os) (started : os.Started) (H : Type) (enc : TypeId × Value → H) :
    ReturnsInHanded {} Try.checked os 6 .any (Rows.wireAllSpec.pre6 enc Try.prog Try.f6 Rows.wireAllRow.domain false) (Rows.wireAllSpec.post enc Try.prog Try.f6 false true false false) := by
  refine returnsInHanded_of_change (C := Try.checked) own started (by kernel_rfl) Try.func6
    (ChangeSpec.witness6 (enc := enc) (C := Try.checked) false ⟨#[], #[.int .i64 0, .agg (zP.fd none 0).cells.toArray], []⟩ 12 (by kernel_rfl) (by kernel_rfl) (by kernel_rfl) (by kernel_rfl)) ?_
  intro W base args ds gs before hval0 hW hcnd _
  have hval : ∀ (j : Nat) t v, Try.f6.params[j]? = some t → args[j]? = some v → Value.okWide Try.prog W .any base t v := hval0
  have hW' := hW
  obtain ⟨p, q, hA0, hV, rfl, hfz, hnd⟩ := hW
  have hA : DataW.TrodAll enc Try.prog W 0 (fun _ => true) true Try.f6.params.toList args.toList ds p := hA0
  rw [Try.params6] at hA hval
  obtain ⟨v0, vs0, d0, ds0, q0, r0, hargs, rfl, rfl, h0, t0⟩ := trodAll_cons hA
  obtain ⟨v1, vs1, d1, ds1, q1, r1, rfl, rfl, rfl, h1, t1⟩ := trodAll_cons t0
  obtain ⟨rfl, rfl, rfl⟩ := trodAll_nil t1
  obtain rfl : args = #[v0, v1] := by cases args; simp_all
  obtain ⟨rfl, rfl⟩ := trodVars_none hV
  have k0 := h0
  have lt0 : ∀ x ∈ q0, x.block < W.heap.size := by obtain ⟨m, hm⟩ := k0; exact DataW.trod_lt m _ _ _ hm
  obtain ⟨a0, rfl, rfl, rfl, w0⟩ := open_int Try.underlying3 (hval 0 3 v0 rfl rfl) h0
  have k1 := h1
  have lt1 : ∀ x ∈ q1, x.block < W.heap.size := by obtain ⟨m, hm⟩ := k1; exact DataW.trod_lt m _ _ _ hm
  obtain ⟨p1, A1, c1, rfl, hp1, hd1, hc1, hw1⟩ := open_f (hval 1 33 v1 rfl rfl) h1
  clear hA0 hval0
  refine (walk W a0 w0 p1 A1 c1 hp1 hd1 hc1 hw1).mono fun e W' ⟨he, bel⟩ => ?_
  subst he
  exact ⟨_, rfl, _, _, _, [], _, [], hW', trodAll_mk1 (shut_bool Try.underlying4 _), (trodAll_cons_mk (Below.trod laidOut (by kernel_rfl) (of_decide_eq_true (by kernel_rfl)) k0 bel lt0) (trodAll_cons_mk (Below.trod laidOut (by kernel_rfl) (of_decide_eq_true (by kernel_rfl)) k1 bel lt1) trodAll_mk0)), rfl, bel.frame _, fun h => by cases h⟩

theorem over : Rows.wireAllRow.holds Try.pinned (OpenSpec.ofChange Rows.wireAllSpec) :=
  OpenClaim.holds_of_wide 6 Try.f6 rfl rfl rfl rfl rfl rfl rfl ⟨rfl, rfl, rfl, rfl, rfl⟩ rfl rfl rfl rfl rfl (by kernel_rfl) Try.func6 (by kernel_rfl)
    (of_decide_eq_true (by kernel_rfl)) (by unfold Func.isWrapper; first | (rw [if_pos (by decide +kernel)]; kernel_rfl) | (rw [if_neg (by decide +kernel)]; exact ⟨rfl, rfl⟩))
    (fun os started H enc _ => lifted os started H enc)

theorem proved : Rows.WireAllSaid := over
#print axioms proved
end Go.Proofs.Ytofngihdnjgmeaa.wireAll
