/- usufructlaw10.WireDown returns true for every input: what a format leaves of a field it can say; with the residue it is what it was; where it can say it nothing is left over. No condition. -/
import Derived.Test.YtofngihdnjgmeaaLWk
import Derived.WalkKit
import Derived.ProofKit
import Derived.OpenShut
import Derived.ChangeOld
import Derived.Below
namespace Go.Proofs.Ytofngihdnjgmeaa.wireDown
open Go.ChangeShapes Go.WideShapes Go.ChangeAt Go.RowKit
set_option linter.unusedVariables false

theorem own : ownKnob Try.prog.godebug = none := by kernel_rfl
theorem laidOut : laidOutB Try.prog = true := by kernel_rfl

set_option maxRecDepth 100000 in
set_option maxHeartbeats 4000000 in
theorem walk (w : World) (a0 : Int) (w0 : (Lit.int .i64 a0).wf = true) (p1 : Pf) (A1 : Option Addr) (c1 : Nat) (hp1 : p1.full) (hd1 : Came w A1 p1.hs.length p1.hs) (hc1 : p1.hs.length ≤ c1) (hw1 : ∀ z ∈ p1.C, (Lit.int .i64 z).wf = true) :
    Calls Try.prog 3 #[.int .i64 a0, .agg (p1.fd A1 c1).cells.toArray] w fun e w' => e = .returned (.bool true) ∧ Below w.heap.size w w' := by
  have HK0 := KeepF.start (w := w) (rows := []) (by simp)
  cases hfew : fewP p1 with
  | false =>
    have HFEW := Lib.hid hfew
    have HF := Lib.hid hp1; clear hp1
    have HK := Lib.hid HK0
    clear hd1 HK0
    go_enter Try.func3, Try.ntmps3
    go_wp2_with (first
      | (with_reducible refine box_f HK.out rfl _ rfl rfl ?_; intro b1 u hk; clear HK; have HK := Lib.hid hk; clear hk)
      | (with_reducible refine load_fr HK.out 0 Try.underlying33 rfl (Pf.infoF HF.out) _ rfl rfl rfl rfl Pf.all ?_)
      | (with_reducible refine build_f1 HK.out rfl _ rfl HF.out rfl ?_; intro b2 u hk; clear HK; have HK := Lib.hid hk; clear hk)
      | (go_at_call 7; (with_reducible refine (few_f p1 HF.out A1 c1 _ _ HFEW.out _ (HK.out.get 0 rfl)).mono ?_); rintro e u ⟨rfl, hb⟩; have hk := HK.out.call hb; clear hb; clear HK; have HK := Lib.hid hk; clear hk)
      | (go_at_call 8; (with_reducible refine (awake_any _).mono ?_); rintro e u ⟨rfl, hb⟩; have hk := HK.out.call hb; clear hb; clear HK; have HK := Lib.hid hk; clear hk))
    go_ret
    exact ⟨rfl, HK.out.bel⟩
  | true =>
    obtain ⟨z1, z2⟩ := few_parts hfew
    have hrow := hd1.row (by omega)
    have HFEW := Lib.hid hfew
    have HF := Lib.hid hp1
    clear HK0
    have HK := Lib.hid (KeepF.start (w := w) (rows := [(A1, p1.hs.length, p1.hs)]) (by simpa using hrow))
    have hN : p1.nm.size ≤ 1000 := by omega
    have hdn0 := dn_t a0 w0 p1 hp1 hN
    have HG0 := dP_full hp1 a0
    cases hr : rightP p1 with
    | false =>
      have hrr := fun w h => rright_p p1 hp1 hN A1 c1 false hr w h
      rw [show dnErr a0 p1 = 1 by simp [dnErr, hr]] at hdn0
      have hdn := hdn0 A1 c1
      have HG := Lib.hid HG0
      generalize dP a0 p1 = g at hdn HG
      generalize dE a0 p1 = E2 at hdn
      generalize dH a0 p1 = H2 at hdn
      clear hdn0 HG0 hr hrow hd1 hfew z1 z2 hN hp1
      go_enter Try.func3, Try.ntmps3
      go_wp2_with (first
        | (with_reducible refine box_f HK.out rfl _ rfl rfl ?_; intro b1 u hk; clear HK; have HK := Lib.hid hk; clear hk)
        | (with_reducible refine load_fr HK.out 0 Try.underlying33 rfl (Pf.infoF HF.out) _ rfl rfl rfl rfl Pf.all ?_)
        | (with_reducible refine build_f1 HK.out rfl _ rfl HF.out rfl ?_; intro b2 u hk; clear HK; have HK := Lib.hid hk; clear hk)
        | (go_at_call 7; (with_reducible refine (few_f p1 HF.out A1 c1 _ _ HFEW.out _ (HK.out.get 0 rfl)).mono ?_); rintro e u ⟨rfl, hb⟩; have hk := HK.out.call hb; clear hb; clear HK; have HK := Lib.hid hk; clear hk)
        | (with_reducible refine load_fr HK.out 1 Try.underlying33 rfl (Pf.infoF HF.out) _ rfl rfl rfl rfl Pf.all ?_)
        | (go_at_call 9; (with_reducible refine (hdn _ (HK.out.rowAt 0 rfl)).mono ?_); rintro e u ⟨A5, c5, B5, d5, rfl, r1, f1, r2, f2, hb⟩; have hk := HK.out.fresh2 hb r1 f1 r2 f2; clear hb r1 f1 r2 f2; clear HK; have HK := Lib.hid hk; clear hk)
        | (with_reducible refine alloc_f HK.out f_zeroP rfl rfl ?_; intro b5 u hk; clear HK; have HK := Lib.hid hk; clear hk)
        | (with_reducible refine alloc_f HK.out rs_zero rfl rfl ?_; intro b6 u hk; clear HK; have HK := Lib.hid hk; clear hk)
        | (with_reducible refine store_fr HK.out 1 (Pf.infoF HG.out) (Fd.one _) rfl rfl _ _ rfl rfl rfl rfl (Fd.leP zP_full HG.out) (Fd.setAllP zP_full HG.out) ?_; intro u hk; simp only [List.set_cons_zero, List.set_cons_succ] at hk; clear HK; have HK := Lib.hid hk; clear hk)
        | (with_reducible refine store_fr HK.out 0 (rs_info _ _ _ _) (rs_one _ _ _ _) rfl rfl _ _ rfl rfl rfl rfl (rs_le _ _ _ _ _ _ _ _) (rs_put _ _ _ _ _ _ _ _) ?_; intro u hk; simp only [List.set_cons_zero] at hk; clear HK; have HK := Lib.hid hk; clear hk)
        | (with_reducible refine load_fr HK.out 3 Try.underlying33 rfl (Pf.infoF HF.out) _ rfl rfl rfl rfl Pf.all ?_)
        | (go_at_call 10; (with_reducible refine (hrr _ (HK.out.rowAt 2 rfl)).mono ?_); rintro e u ⟨rfl, hb⟩; have hk := HK.out.call hb; clear hb; clear HK; have HK := Lib.hid hk; clear hk)
        | (go_at_call 8; (with_reducible refine (awake_any _).mono ?_); rintro e u ⟨rfl, hb⟩; have hk := HK.out.call hb; clear hb; clear HK; have HK := Lib.hid hk; clear hk))
      go_ret
      exact ⟨rfl, HK.out.bel⟩
    | true =>
      have hrr := fun w h => rright_p p1 hp1 hN A1 c1 true hr w h
      cases hb : verB a0 with
      | false =>
        rw [show dnErr a0 p1 = 18 by simp [dnErr, hr, hb], show dP a0 p1 = zP by simp [dP, dnErr, hr, hb]] at hdn0
        have hdn := hdn0 A1 c1
        have HZ := Lib.hid zP_full
        generalize dE a0 p1 = E2 at hdn
        generalize dH a0 p1 = H2 at hdn
        have hsm := fun A c w h1 h2 => rsame_any zP zP_full A none c 0 w h1 h2
        by_cases h1 : a0 < 1
        · have G1 := Lib.hid (show decide (a0 < 1) = true by simpa using h1)
          clear hdn0 HG0 hr hrow hd1 hfew z1 z2 hN hp1 h1 hb
          go_enter Try.func3, Try.ntmps3
          go_wp2_with (first
            | (with_reducible refine box_f HK.out rfl _ rfl rfl ?_; intro b1 u hk; clear HK; have HK := Lib.hid hk; clear hk)
            | (with_reducible refine load_fr HK.out 0 Try.underlying33 rfl (Pf.infoF HF.out) _ rfl rfl rfl rfl Pf.all ?_)
            | (with_reducible refine build_f1 HK.out rfl _ rfl HF.out rfl ?_; intro b2 u hk; clear HK; have HK := Lib.hid hk; clear hk)
            | (go_at_call 7; (with_reducible refine (few_f p1 HF.out A1 c1 _ _ HFEW.out _ (HK.out.get 0 rfl)).mono ?_); rintro e u ⟨rfl, hb⟩; have hk := HK.out.call hb; clear hb; clear HK; have HK := Lib.hid hk; clear hk)
            | (with_reducible refine load_fr HK.out 1 Try.underlying33 rfl (Pf.infoF HF.out) _ rfl rfl rfl rfl Pf.all ?_)
            | (go_at_call 9; (with_reducible refine (hdn _ (HK.out.rowAt 0 rfl)).mono ?_); rintro e u ⟨A5, c5, B5, d5, rfl, r1, f1, r2, f2, hb⟩; have hk := HK.out.fresh2 hb r1 f1 r2 f2; clear hb r1 f1 r2 f2; clear HK; have HK := Lib.hid hk; clear hk)
            | (with_reducible refine alloc_f HK.out f_zeroP rfl rfl ?_; intro b5 u hk; clear HK; have HK := Lib.hid hk; clear hk)
            | (with_reducible refine alloc_f HK.out rs_zero rfl rfl ?_; intro b6 u hk; clear HK; have HK := Lib.hid hk; clear hk)
            | (with_reducible refine store_fr HK.out 1 (Pf.infoF HZ.out) (Fd.one _) rfl rfl _ _ rfl rfl rfl rfl (Fd.leP zP_full HZ.out) (Fd.setAllP zP_full HZ.out) ?_; intro u hk; simp only [List.set_cons_zero, List.set_cons_succ] at hk; clear HK; have HK := Lib.hid hk; clear hk)
            | (with_reducible refine store_fr HK.out 0 (rs_info _ _ _ _) (rs_one _ _ _ _) rfl rfl _ _ rfl rfl rfl rfl (rs_le _ _ _ _ _ _ _ _) (rs_put _ _ _ _ _ _ _ _) ?_; intro u hk; simp only [List.set_cons_zero] at hk; clear HK; have HK := Lib.hid hk; clear hk)
            | (with_reducible refine load_fr HK.out 3 Try.underlying33 rfl (Pf.infoF HF.out) _ rfl rfl rfl rfl Pf.all ?_)
            | (go_at_call 10; (with_reducible refine (hrr _ (HK.out.rowAt 2 rfl)).mono ?_); rintro e u ⟨rfl, hb⟩; have hk := HK.out.call hb; clear hb; clear HK; have HK := Lib.hid hk; clear hk)
            | (with_reducible refine lss_want G1.out _ _ _ rfl rfl rfl rfl ?_)
            | (with_reducible refine load_fr HK.out 1 Try.underlying33 rfl (Pf.infoF HZ.out) _ rfl rfl rfl rfl Pf.all ?_)
            | (with_reducible refine build_fw f_buildP rfl rfl ?_)
            | (go_at_call 11; (with_reducible refine (hsm _ _ _ (HK.out.rowAt 0 rfl) (Row.nil _ _)).mono ?_); rintro e u ⟨rfl, hb⟩; have hk := HK.out.call hb; clear hb; clear HK; have HK := Lib.hid hk; clear hk)
            | (go_at_call 8; (with_reducible refine (awake_any _).mono ?_); rintro e u ⟨rfl, hb⟩; have hk := HK.out.call hb; clear hb; clear HK; have HK := Lib.hid hk; clear hk))
          go_ret
          exact ⟨rfl, HK.out.bel⟩
        · have h3 : 3 < a0 := by simp [verB] at hb; omega
          have G1 := Lib.hid (show decide (a0 < 1) = false by simpa using h1)
          have G3 := Lib.hid (show decide (3 < a0) = true by simpa using h3)
          clear hdn0 HG0 hr hrow hd1 hfew z1 z2 hN hp1 h1 h3 hb
          go_enter Try.func3, Try.ntmps3
          go_wp2_with (first
            | (with_reducible refine box_f HK.out rfl _ rfl rfl ?_; intro b1 u hk; clear HK; have HK := Lib.hid hk; clear hk)
            | (with_reducible refine load_fr HK.out 0 Try.underlying33 rfl (Pf.infoF HF.out) _ rfl rfl rfl rfl Pf.all ?_)
            | (with_reducible refine build_f1 HK.out rfl _ rfl HF.out rfl ?_; intro b2 u hk; clear HK; have HK := Lib.hid hk; clear hk)
            | (go_at_call 7; (with_reducible refine (few_f p1 HF.out A1 c1 _ _ HFEW.out _ (HK.out.get 0 rfl)).mono ?_); rintro e u ⟨rfl, hb⟩; have hk := HK.out.call hb; clear hb; clear HK; have HK := Lib.hid hk; clear hk)
            | (with_reducible refine load_fr HK.out 1 Try.underlying33 rfl (Pf.infoF HF.out) _ rfl rfl rfl rfl Pf.all ?_)
            | (go_at_call 9; (with_reducible refine (hdn _ (HK.out.rowAt 0 rfl)).mono ?_); rintro e u ⟨A5, c5, B5, d5, rfl, r1, f1, r2, f2, hb⟩; have hk := HK.out.fresh2 hb r1 f1 r2 f2; clear hb r1 f1 r2 f2; clear HK; have HK := Lib.hid hk; clear hk)
            | (with_reducible refine alloc_f HK.out f_zeroP rfl rfl ?_; intro b5 u hk; clear HK; have HK := Lib.hid hk; clear hk)
            | (with_reducible refine alloc_f HK.out rs_zero rfl rfl ?_; intro b6 u hk; clear HK; have HK := Lib.hid hk; clear hk)
            | (with_reducible refine store_fr HK.out 1 (Pf.infoF HZ.out) (Fd.one _) rfl rfl _ _ rfl rfl rfl rfl (Fd.leP zP_full HZ.out) (Fd.setAllP zP_full HZ.out) ?_; intro u hk; simp only [List.set_cons_zero, List.set_cons_succ] at hk; clear HK; have HK := Lib.hid hk; clear hk)
            | (with_reducible refine store_fr HK.out 0 (rs_info _ _ _ _) (rs_one _ _ _ _) rfl rfl _ _ rfl rfl rfl rfl (rs_le _ _ _ _ _ _ _ _) (rs_put _ _ _ _ _ _ _ _) ?_; intro u hk; simp only [List.set_cons_zero] at hk; clear HK; have HK := Lib.hid hk; clear hk)
            | (with_reducible refine load_fr HK.out 3 Try.underlying33 rfl (Pf.infoF HF.out) _ rfl rfl rfl rfl Pf.all ?_)
            | (go_at_call 10; (with_reducible refine (hrr _ (HK.out.rowAt 2 rfl)).mono ?_); rintro e u ⟨rfl, hb⟩; have hk := HK.out.call hb; clear hb; clear HK; have HK := Lib.hid hk; clear hk)
            | (with_reducible refine lss_want G1.out _ _ _ rfl rfl rfl rfl ?_)
            | (with_reducible refine load_fr HK.out 1 Try.underlying33 rfl (Pf.infoF HZ.out) _ rfl rfl rfl rfl Pf.all ?_)
            | (with_reducible refine build_fw f_buildP rfl rfl ?_)
            | (go_at_call 11; (with_reducible refine (hsm _ _ _ (HK.out.rowAt 0 rfl) (Row.nil _ _)).mono ?_); rintro e u ⟨rfl, hb⟩; have hk := HK.out.call hb; clear hb; clear HK; have HK := Lib.hid hk; clear hk)
            | (with_reducible refine gtr_want G3.out _ _ _ rfl rfl rfl rfl ?_)
            | (go_at_call 8; (with_reducible refine (awake_any _).mono ?_); rintro e u ⟨rfl, hb⟩; have hk := HK.out.call hb; clear hb; clear HK; have HK := Lib.hid hk; clear hk))
          go_ret
          exact ⟨rfl, HK.out.bel⟩
      | true =>
        have e0 : dnErr a0 p1 = 0 := by simp [dnErr, hr, hb]
        obtain ⟨y1, y2, y3, y4⟩ := dn_C e0
        have y5 := dn_len (v := a0) (p := p1)
        have hup0 := up_t (dP a0 p1) HG0 (by rw [y3]; exact hN) (dE a0 p1) (dE_ok (ep_ok hr)) (dH a0 p1) (by omega) p1 0 (up_dn hr hb).2 (up_dn hr hb).1
        have hsg0 := fun A c w h => rsays_any a0 (dP a0 p1) HG0 (by rw [y3]; exact hN) A c true (says_dn hr hb) w h
        have hns := none_says hr hb
        rw [e0] at hdn0
        have hdn := hdn0 A1 c1
        have HG := Lib.hid HG0
        have h1 : ¬ a0 < 1 := by simp [verB] at hb; omega
        have h3 : ¬ 3 < a0 := by simp [verB] at hb; omega
        have G1 := Lib.hid (show decide (a0 < 1) = false by simpa using h1)
        have G3 := Lib.hid (show decide (3 < a0) = false by simpa using h3)
        have hsm := fun A c w k1 k2 => rsame_any p1 hp1 A A1 c c1 w k1 k2
        clear hdn0 HG0 hrow hd1 hfew z1 z2 h1 h3 y3 y4 y5 e0
        have hcq : ∀ W, (Op.equalIn 10000 28 (.agg (vals (dP a0 p1).C).toArray) (.agg (vals p1.C).toArray)).run Try.prog W = .ok true W := fun W => by rw [y1]; exact c_same _ hp1 W
        have hlq : ∀ W, (Op.equalIn 10000 30 (.agg (vals (dP a0 p1).L.l).toArray) (.agg (vals p1.L.l).toArray)).run Try.prog W = .ok true W := fun W => by rw [y2]; exact l_same _ W
        clear y1 y2
        generalize dP a0 p1 = g at hdn HG hup0 hsg0 hcq hlq
        generalize dE a0 p1 = E2 at hdn hup0 hns
        generalize dH a0 p1 = H2 at hdn hup0 hns
        cases hnb : saysR a0 p1 with
        | true =>
          have hsp := fun w h => rsays_any a0 p1 hp1 hN A1 c1 true hnb w h
          have hup := hup0
          have hsg := hsg0
          rw [hnb] at hns
          clear hnb
          have hx : E2 = 0 ∧ H2.length = 0 := by simpa using hns
          have E0 := Lib.hid (show (E2 == 0) = true by simp [hx.1])
          have L0 := Lib.hid (show ((H2.length : Int) == 0) = true by simp [List.eq_nil_of_length_eq_zero hx.2])
          clear hx hns hr hb hN hup0 hsg0 hp1
          go_enter Try.func3, Try.ntmps3
          go_wp2_with (first
            | (with_reducible refine box_f HK.out rfl _ rfl rfl ?_; intro b1 u hk; clear HK; have HK := Lib.hid hk; clear hk)
            | (with_reducible refine load_fr HK.out 0 Try.underlying33 rfl (Pf.infoF HF.out) _ rfl rfl rfl rfl Pf.all ?_)
            | (with_reducible refine build_f1 HK.out rfl _ rfl HF.out rfl ?_; intro b2 u hk; clear HK; have HK := Lib.hid hk; clear hk)
            | (go_at_call 7; (with_reducible refine (few_f p1 HF.out A1 c1 _ _ HFEW.out _ (HK.out.get 0 rfl)).mono ?_); rintro e u ⟨rfl, hb⟩; have hk := HK.out.call hb; clear hb; clear HK; have HK := Lib.hid hk; clear hk)
            | (with_reducible refine load_fr HK.out 1 Try.underlying33 rfl (Pf.infoF HF.out) _ rfl rfl rfl rfl Pf.all ?_)
            | (go_at_call 9; (with_reducible refine (hdn _ (HK.out.rowAt 0 rfl)).mono ?_); rintro e u ⟨A5, c5, B5, d5, rfl, r1, f1, r2, f2, hb⟩; have hk := HK.out.fresh2 hb r1 f1 r2 f2; clear hb r1 f1 r2 f2; clear HK; have HK := Lib.hid hk; clear hk)
            | (with_reducible refine alloc_f HK.out f_zeroP rfl rfl ?_; intro bz u hk; clear HK; have HK := Lib.hid hk; clear hk)
            | (with_reducible refine alloc_f HK.out rs_zero rfl rfl ?_; intro b6 u hk; clear HK; have HK := Lib.hid hk; clear hk)
            | (with_reducible refine store_fr HK.out 1 (Pf.infoF HG.out) (Fd.one _) rfl rfl _ _ rfl rfl rfl rfl (Fd.leP zP_full HG.out) (Fd.setAllP zP_full HG.out) ?_; intro u hk; simp only [List.set_cons_zero, List.set_cons_succ] at hk; clear HK; have HK := Lib.hid hk; clear hk)
            | (with_reducible refine store_fr HK.out 0 (rs_info _ _ _ _) (rs_one _ _ _ _) rfl rfl _ _ rfl rfl rfl rfl (rs_le _ _ _ _ _ _ _ _) (rs_put _ _ _ _ _ _ _ _) ?_; intro u hk; simp only [List.set_cons_zero] at hk; clear HK; have HK := Lib.hid hk; clear hk)
            | (with_reducible refine load_fr HK.out 3 Try.underlying33 rfl (Pf.infoF HF.out) _ rfl rfl rfl rfl Pf.all ?_)
            | (go_at_call 10; (with_reducible refine (hrr _ (HK.out.rowAt 2 rfl)).mono ?_); rintro e u ⟨rfl, hb⟩; have hk := HK.out.call hb; clear hb; clear HK; have HK := Lib.hid hk; clear hk)
            | (with_reducible refine lss_want G1.out _ _ _ rfl rfl rfl rfl ?_)
            | (with_reducible refine gtr_want G3.out _ _ _ rfl rfl rfl rfl ?_)
            | (with_reducible refine load_fr HK.out 1 Try.underlying33 rfl (Pf.infoF HG.out) _ rfl rfl rfl rfl Pf.all ?_)
            | (with_reducible refine load_fr HK.out 0 Try.underlying37 rfl (rs_info _ _ _ _) _ rfl rfl rfl rfl rs_all ?_)
            | (go_at_call 12; (with_reducible refine (hup _ _ _ _ _ (HK.out.rowAt 0 rfl) (HK.out.rowAt 1 rfl)).mono ?_); rintro e u ⟨A8, c8, rfl, r1, f1, hb⟩; have hk := HK.out.fresh hb r1 f1; clear hb r1 f1; clear HK; have HK := Lib.hid hk; clear hk)
            | (with_reducible refine store_fr HK.out 0 (Pf.infoF HF.out) (Fd.one _) rfl rfl _ _ rfl rfl rfl rfl (Fd.leP zP_full HF.out) (Fd.setAllP zP_full HF.out) ?_; intro u hk; simp only [List.set_cons_zero] at hk; clear HK; have HK := Lib.hid hk; clear hk)
            | (with_reducible refine load_f1 HK.out 1 cbI _ rfl rfl rfl rfl rs_c0 ?_)
            | (with_reducible refine load_f1 HK.out 1 cbH _ rfl rfl rfl rfl rs_c1 ?_)
            | (with_reducible refine load_fr HK.out 2 Try.underlying33 rfl (Pf.infoF HG.out) _ rfl rfl rfl rfl Pf.all ?_)
            | (go_at_call 13; (with_reducible refine (hsg _ _ _ (HK.out.rowAt 1 rfl)).mono ?_); rintro e u ⟨rfl, hb⟩; have hk := HK.out.call hb; clear hb; clear HK; have HK := Lib.hid hk; clear hk)
            | (with_reducible refine load_fr HK.out 0 Try.underlying33 rfl (Pf.infoF HF.out) _ rfl rfl rfl rfl Pf.all ?_)
            | (with_reducible refine load_fr HK.out 4 Try.underlying33 rfl (Pf.infoF HF.out) _ rfl rfl rfl rfl Pf.all ?_)
            | (go_at_call 11; (with_reducible refine (hsm _ _ _ (HK.out.rowAt 0 rfl) (HK.out.rowAt 3 rfl)).mono ?_); rintro e u ⟨rfl, hb⟩; have hk := HK.out.call hb; clear hb; clear HK; have HK := Lib.hid hk; clear hk)
            | (go_at_call 13; (with_reducible refine (hsp _ (HK.out.rowAt 3 rfl)).mono ?_); rintro e u ⟨rfl, hb⟩; have hk := HK.out.call hb; clear hb; clear HK; have HK := Lib.hid hk; clear hk)
            | (with_reducible refine load_fr HK.out 2 Try.underlying28 rfl (Pf.infoC HG.out) _ rfl rfl rfl rfl Pf.cC ?_)
            | (with_reducible refine load_fr HK.out 4 Try.underlying28 rfl (Pf.infoC HF.out) _ rfl rfl rfl rfl Pf.cC ?_)
            | (with_reducible refine load_fr HK.out 2 Try.underlying30 rfl (l_infoF _) _ rfl rfl rfl rfl (Pf.cL HG.out) ?_)
            | (with_reducible refine load_fr HK.out 4 Try.underlying30 rfl (l_infoF _) _ rfl rfl rfl rfl (Pf.cL HF.out) ?_)
            | (with_reducible refine eql_fw c_guardF hcq _ _ _ rfl rfl rfl rfl ?_)
            | (with_reducible refine eql_fw lk_guard hlq _ _ _ rfl rfl rfl rfl ?_)
            | (with_reducible refine eql_want E0.out _ _ _ rfl rfl rfl rfl ?_)
            | (with_reducible refine eql_want L0.out _ _ _ rfl rfl rfl rfl ?_)
            | (go_at_call 8; (with_reducible refine (awake_any _).mono ?_); rintro e u ⟨rfl, hb⟩; have hk := HK.out.call hb; clear hb; clear HK; have HK := Lib.hid hk; clear hk))
          go_ret
          exact ⟨rfl, HK.out.bel⟩
        | false =>
          have hsp := fun w h => rsays_any a0 p1 hp1 hN A1 c1 false hnb w h
          have hup := hup0
          have hsg := hsg0
          rw [hnb] at hns
          clear hnb
          by_cases he : E2 = 0
          · have hx : H2.length ≠ 0 := by simpa [he] using hns
            have E0 := Lib.hid (show (E2 == 0) = true by simp [he])
            have L0 := Lib.hid (show ((H2.length : Int) == 0) = false by rw [beq_eq_false_iff_ne]; omega)
            clear he hx hns hr hb hN hup0 hsg0 hp1
            go_enter Try.func3, Try.ntmps3
            go_wp2_with (first
              | (with_reducible refine box_f HK.out rfl _ rfl rfl ?_; intro b1 u hk; clear HK; have HK := Lib.hid hk; clear hk)
              | (with_reducible refine load_fr HK.out 0 Try.underlying33 rfl (Pf.infoF HF.out) _ rfl rfl rfl rfl Pf.all ?_)
              | (with_reducible refine build_f1 HK.out rfl _ rfl HF.out rfl ?_; intro b2 u hk; clear HK; have HK := Lib.hid hk; clear hk)
              | (go_at_call 7; (with_reducible refine (few_f p1 HF.out A1 c1 _ _ HFEW.out _ (HK.out.get 0 rfl)).mono ?_); rintro e u ⟨rfl, hb⟩; have hk := HK.out.call hb; clear hb; clear HK; have HK := Lib.hid hk; clear hk)
              | (with_reducible refine load_fr HK.out 1 Try.underlying33 rfl (Pf.infoF HF.out) _ rfl rfl rfl rfl Pf.all ?_)
              | (go_at_call 9; (with_reducible refine (hdn _ (HK.out.rowAt 0 rfl)).mono ?_); rintro e u ⟨A5, c5, B5, d5, rfl, r1, f1, r2, f2, hb⟩; have hk := HK.out.fresh2 hb r1 f1 r2 f2; clear hb r1 f1 r2 f2; clear HK; have HK := Lib.hid hk; clear hk)
              | (with_reducible refine alloc_f HK.out f_zeroP rfl rfl ?_; intro bz u hk; clear HK; have HK := Lib.hid hk; clear hk)
              | (with_reducible refine alloc_f HK.out rs_zero rfl rfl ?_; intro b6 u hk; clear HK; have HK := Lib.hid hk; clear hk)
              | (with_reducible refine store_fr HK.out 1 (Pf.infoF HG.out) (Fd.one _) rfl rfl _ _ rfl rfl rfl rfl (Fd.leP zP_full HG.out) (Fd.setAllP zP_full HG.out) ?_; intro u hk; simp only [List.set_cons_zero, List.set_cons_succ] at hk; clear HK; have HK := Lib.hid hk; clear hk)
              | (with_reducible refine store_fr HK.out 0 (rs_info _ _ _ _) (rs_one _ _ _ _) rfl rfl _ _ rfl rfl rfl rfl (rs_le _ _ _ _ _ _ _ _) (rs_put _ _ _ _ _ _ _ _) ?_; intro u hk; simp only [List.set_cons_zero] at hk; clear HK; have HK := Lib.hid hk; clear hk)
              | (with_reducible refine load_fr HK.out 3 Try.underlying33 rfl (Pf.infoF HF.out) _ rfl rfl rfl rfl Pf.all ?_)
              | (go_at_call 10; (with_reducible refine (hrr _ (HK.out.rowAt 2 rfl)).mono ?_); rintro e u ⟨rfl, hb⟩; have hk := HK.out.call hb; clear hb; clear HK; have HK := Lib.hid hk; clear hk)
              | (with_reducible refine lss_want G1.out _ _ _ rfl rfl rfl rfl ?_)
              | (with_reducible refine gtr_want G3.out _ _ _ rfl rfl rfl rfl ?_)
              | (with_reducible refine load_fr HK.out 1 Try.underlying33 rfl (Pf.infoF HG.out) _ rfl rfl rfl rfl Pf.all ?_)
              | (with_reducible refine load_fr HK.out 0 Try.underlying37 rfl (rs_info _ _ _ _) _ rfl rfl rfl rfl rs_all ?_)
              | (go_at_call 12; (with_reducible refine (hup _ _ _ _ _ (HK.out.rowAt 0 rfl) (HK.out.rowAt 1 rfl)).mono ?_); rintro e u ⟨A8, c8, rfl, r1, f1, hb⟩; have hk := HK.out.fresh hb r1 f1; clear hb r1 f1; clear HK; have HK := Lib.hid hk; clear hk)
              | (with_reducible refine store_fr HK.out 0 (Pf.infoF HF.out) (Fd.one _) rfl rfl _ _ rfl rfl rfl rfl (Fd.leP zP_full HF.out) (Fd.setAllP zP_full HF.out) ?_; intro u hk; simp only [List.set_cons_zero] at hk; clear HK; have HK := Lib.hid hk; clear hk)
              | (with_reducible refine load_f1 HK.out 1 cbI _ rfl rfl rfl rfl rs_c0 ?_)
              | (with_reducible refine load_f1 HK.out 1 cbH _ rfl rfl rfl rfl rs_c1 ?_)
              | (with_reducible refine load_fr HK.out 2 Try.underlying33 rfl (Pf.infoF HG.out) _ rfl rfl rfl rfl Pf.all ?_)
              | (go_at_call 13; (with_reducible refine (hsg _ _ _ (HK.out.rowAt 1 rfl)).mono ?_); rintro e u ⟨rfl, hb⟩; have hk := HK.out.call hb; clear hb; clear HK; have HK := Lib.hid hk; clear hk)
              | (with_reducible refine load_fr HK.out 0 Try.underlying33 rfl (Pf.infoF HF.out) _ rfl rfl rfl rfl Pf.all ?_)
              | (with_reducible refine load_fr HK.out 4 Try.underlying33 rfl (Pf.infoF HF.out) _ rfl rfl rfl rfl Pf.all ?_)
              | (go_at_call 11; (with_reducible refine (hsm _ _ _ (HK.out.rowAt 0 rfl) (HK.out.rowAt 3 rfl)).mono ?_); rintro e u ⟨rfl, hb⟩; have hk := HK.out.call hb; clear hb; clear HK; have HK := Lib.hid hk; clear hk)
              | (go_at_call 13; (with_reducible refine (hsp _ (HK.out.rowAt 3 rfl)).mono ?_); rintro e u ⟨rfl, hb⟩; have hk := HK.out.call hb; clear hb; clear HK; have HK := Lib.hid hk; clear hk)
              | (with_reducible refine load_fr HK.out 2 Try.underlying28 rfl (Pf.infoC HG.out) _ rfl rfl rfl rfl Pf.cC ?_)
              | (with_reducible refine load_fr HK.out 4 Try.underlying28 rfl (Pf.infoC HF.out) _ rfl rfl rfl rfl Pf.cC ?_)
              | (with_reducible refine load_fr HK.out 2 Try.underlying30 rfl (l_infoF _) _ rfl rfl rfl rfl (Pf.cL HG.out) ?_)
              | (with_reducible refine load_fr HK.out 4 Try.underlying30 rfl (l_infoF _) _ rfl rfl rfl rfl (Pf.cL HF.out) ?_)
              | (with_reducible refine eql_fw c_guardF hcq _ _ _ rfl rfl rfl rfl ?_)
              | (with_reducible refine eql_fw lk_guard hlq _ _ _ rfl rfl rfl rfl ?_)
              | (with_reducible refine eql_want E0.out _ _ _ rfl rfl rfl rfl ?_)
              | (with_reducible refine eql_want L0.out _ _ _ rfl rfl rfl rfl ?_)
              | (go_at_call 8; (with_reducible refine (awake_any _).mono ?_); rintro e u ⟨rfl, hb⟩; have hk := HK.out.call hb; clear hb; clear HK; have HK := Lib.hid hk; clear hk))
            go_ret
            exact ⟨rfl, HK.out.bel⟩
          · have hx := True.intro
            have E0 := Lib.hid (show (E2 == 0) = false by simp [he])
            clear he hx hns hr hb hN hup0 hsg0 hp1
            go_enter Try.func3, Try.ntmps3
            go_wp2_with (first
              | (with_reducible refine box_f HK.out rfl _ rfl rfl ?_; intro b1 u hk; clear HK; have HK := Lib.hid hk; clear hk)
              | (with_reducible refine load_fr HK.out 0 Try.underlying33 rfl (Pf.infoF HF.out) _ rfl rfl rfl rfl Pf.all ?_)
              | (with_reducible refine build_f1 HK.out rfl _ rfl HF.out rfl ?_; intro b2 u hk; clear HK; have HK := Lib.hid hk; clear hk)
              | (go_at_call 7; (with_reducible refine (few_f p1 HF.out A1 c1 _ _ HFEW.out _ (HK.out.get 0 rfl)).mono ?_); rintro e u ⟨rfl, hb⟩; have hk := HK.out.call hb; clear hb; clear HK; have HK := Lib.hid hk; clear hk)
              | (with_reducible refine load_fr HK.out 1 Try.underlying33 rfl (Pf.infoF HF.out) _ rfl rfl rfl rfl Pf.all ?_)
              | (go_at_call 9; (with_reducible refine (hdn _ (HK.out.rowAt 0 rfl)).mono ?_); rintro e u ⟨A5, c5, B5, d5, rfl, r1, f1, r2, f2, hb⟩; have hk := HK.out.fresh2 hb r1 f1 r2 f2; clear hb r1 f1 r2 f2; clear HK; have HK := Lib.hid hk; clear hk)
              | (with_reducible refine alloc_f HK.out f_zeroP rfl rfl ?_; intro bz u hk; clear HK; have HK := Lib.hid hk; clear hk)
              | (with_reducible refine alloc_f HK.out rs_zero rfl rfl ?_; intro b6 u hk; clear HK; have HK := Lib.hid hk; clear hk)
              | (with_reducible refine store_fr HK.out 1 (Pf.infoF HG.out) (Fd.one _) rfl rfl _ _ rfl rfl rfl rfl (Fd.leP zP_full HG.out) (Fd.setAllP zP_full HG.out) ?_; intro u hk; simp only [List.set_cons_zero, List.set_cons_succ] at hk; clear HK; have HK := Lib.hid hk; clear hk)
              | (with_reducible refine store_fr HK.out 0 (rs_info _ _ _ _) (rs_one _ _ _ _) rfl rfl _ _ rfl rfl rfl rfl (rs_le _ _ _ _ _ _ _ _) (rs_put _ _ _ _ _ _ _ _) ?_; intro u hk; simp only [List.set_cons_zero] at hk; clear HK; have HK := Lib.hid hk; clear hk)
              | (with_reducible refine load_fr HK.out 3 Try.underlying33 rfl (Pf.infoF HF.out) _ rfl rfl rfl rfl Pf.all ?_)
              | (go_at_call 10; (with_reducible refine (hrr _ (HK.out.rowAt 2 rfl)).mono ?_); rintro e u ⟨rfl, hb⟩; have hk := HK.out.call hb; clear hb; clear HK; have HK := Lib.hid hk; clear hk)
              | (with_reducible refine lss_want G1.out _ _ _ rfl rfl rfl rfl ?_)
              | (with_reducible refine gtr_want G3.out _ _ _ rfl rfl rfl rfl ?_)
              | (with_reducible refine load_fr HK.out 1 Try.underlying33 rfl (Pf.infoF HG.out) _ rfl rfl rfl rfl Pf.all ?_)
              | (with_reducible refine load_fr HK.out 0 Try.underlying37 rfl (rs_info _ _ _ _) _ rfl rfl rfl rfl rs_all ?_)
              | (go_at_call 12; (with_reducible refine (hup _ _ _ _ _ (HK.out.rowAt 0 rfl) (HK.out.rowAt 1 rfl)).mono ?_); rintro e u ⟨A8, c8, rfl, r1, f1, hb⟩; have hk := HK.out.fresh hb r1 f1; clear hb r1 f1; clear HK; have HK := Lib.hid hk; clear hk)
              | (with_reducible refine store_fr HK.out 0 (Pf.infoF HF.out) (Fd.one _) rfl rfl _ _ rfl rfl rfl rfl (Fd.leP zP_full HF.out) (Fd.setAllP zP_full HF.out) ?_; intro u hk; simp only [List.set_cons_zero] at hk; clear HK; have HK := Lib.hid hk; clear hk)
              | (with_reducible refine load_f1 HK.out 1 cbI _ rfl rfl rfl rfl rs_c0 ?_)
              | (with_reducible refine load_f1 HK.out 1 cbH _ rfl rfl rfl rfl rs_c1 ?_)
              | (with_reducible refine load_fr HK.out 2 Try.underlying33 rfl (Pf.infoF HG.out) _ rfl rfl rfl rfl Pf.all ?_)
              | (go_at_call 13; (with_reducible refine (hsg _ _ _ (HK.out.rowAt 1 rfl)).mono ?_); rintro e u ⟨rfl, hb⟩; have hk := HK.out.call hb; clear hb; clear HK; have HK := Lib.hid hk; clear hk)
              | (with_reducible refine load_fr HK.out 0 Try.underlying33 rfl (Pf.infoF HF.out) _ rfl rfl rfl rfl Pf.all ?_)
              | (with_reducible refine load_fr HK.out 4 Try.underlying33 rfl (Pf.infoF HF.out) _ rfl rfl rfl rfl Pf.all ?_)
              | (go_at_call 11; (with_reducible refine (hsm _ _ _ (HK.out.rowAt 0 rfl) (HK.out.rowAt 3 rfl)).mono ?_); rintro e u ⟨rfl, hb⟩; have hk := HK.out.call hb; clear hb; clear HK; have HK := Lib.hid hk; clear hk)
              | (go_at_call 13; (with_reducible refine (hsp _ (HK.out.rowAt 3 rfl)).mono ?_); rintro e u ⟨rfl, hb⟩; have hk := HK.out.call hb; clear hb; clear HK; have HK := Lib.hid hk; clear hk)
              | (with_reducible refine load_fr HK.out 2 Try.underlying28 rfl (Pf.infoC HG.out) _ rfl rfl rfl rfl Pf.cC ?_)
              | (with_reducible refine load_fr HK.out 4 Try.underlying28 rfl (Pf.infoC HF.out) _ rfl rfl rfl rfl Pf.cC ?_)
              | (with_reducible refine load_fr HK.out 2 Try.underlying30 rfl (l_infoF _) _ rfl rfl rfl rfl (Pf.cL HG.out) ?_)
              | (with_reducible refine load_fr HK.out 4 Try.underlying30 rfl (l_infoF _) _ rfl rfl rfl rfl (Pf.cL HF.out) ?_)
              | (with_reducible refine eql_fw c_guardF hcq _ _ _ rfl rfl rfl rfl ?_)
              | (with_reducible refine eql_fw lk_guard hlq _ _ _ rfl rfl rfl rfl ?_)
              | (with_reducible refine eql_want E0.out _ _ _ rfl rfl rfl rfl ?_)
              | (go_at_call 8; (with_reducible refine (awake_any _).mono ?_); rintro e u ⟨rfl, hb⟩; have hk := HK.out.call hb; clear hb; clear HK; have HK := Lib.hid hk; clear hk))
            go_ret
            exact ⟨rfl, HK.out.bel⟩

set_option maxRecDepth 100000 in
theorem lifted (os : Os) (started : os.Started) (H : Type) (enc : TypeId × Value → H) :
    ReturnsInHanded {} Try.checked os 3 .any (Rows.wireDownSpec.pre6 enc Try.prog Try.f3 Rows.wireDownRow.domain false) (Rows.wireDownSpec.post enc Try.prog Try.f3 false true false false) := by
  refine returnsInHanded_of_change (C := Try.checked) own started (by kernel_rfl) Try.func3
    (ChangeSpec.witness6 (enc := enc) (C := Try.checked) false ⟨#[], #[.int .i64 0, .agg (zP.fd none 0).cells.toArray], []⟩ 12 (by kernel_rfl) (by kernel_rfl) (by kernel_rfl) (by kernel_rfl)) ?_
  intro W base args ds gs before hval0 hW hcnd _
  have hval : ∀ (j : Nat) t v, Try.f3.params[j]? = some t → args[j]? = some v → Value.okWide Try.prog W .any base t v := hval0
  have hW' := hW
  obtain ⟨p, q, hA0, hV, rfl, hfz, hnd⟩ := hW
  have hA : DataW.TrodAll enc Try.prog W 0 (fun _ => true) true Try.f3.params.toList args.toList ds p := hA0
  rw [Try.params3] at hA hval
  obtain ⟨v0, vs0, d0, ds0, q0, r0, hargs, rfl, rfl, h0, t0⟩ := trodAll_cons hA
  obtain ⟨v1, vs1, d1, ds1, q1, r1, rfl, rfl, rfl, h1, t1⟩ := trodAll_cons t0
  obtain ⟨rfl, rfl, rfl⟩ := trodAll_nil t1
  obtain rfl : args = #[v0, v1] := by cases args; simp_all
  obtain ⟨rfl, rfl⟩ := trodVars_none hV
  have k0 := h0
  have lt0 : ∀ x ∈ q0, x.block < W.heap.size := by obtain ⟨m, hm⟩ := k0; exact DataW.trod_lt m _ _ _ hm
  obtain ⟨a0, rfl, rfl, rfl, w0⟩ := open_int Try.underlying3 (hval 0 3 v0 rfl rfl) h0
  have k1 := h1
  have lt1 : ∀ x ∈ q1, x.block < W.heap.size := by obtain ⟨m, hm⟩ := k1; exact DataW.trod_lt m _ _ _ hm
  obtain ⟨p1, A1, c1, rfl, hp1, hd1, hc1, hw1⟩ := open_f (hval 1 33 v1 rfl rfl) h1
  clear hA0 hval0
  refine (walk W a0 w0 p1 A1 c1 hp1 hd1 hc1 hw1).mono fun e W' ⟨he, bel⟩ => ?_
  subst he
  exact ⟨_, rfl, _, _, _, [], _, [], hW', trodAll_mk1 (shut_bool Try.underlying4 _), (trodAll_cons_mk (Below.trod laidOut (by kernel_rfl) (of_decide_eq_true (by kernel_rfl)) k0 bel lt0) (trodAll_cons_mk (Below.trod laidOut (by kernel_rfl) (of_decide_eq_true (by kernel_rfl)) k1 bel lt1) trodAll_mk0)), rfl, bel.frame _, fun h => by cases h⟩

theorem over : Rows.wireDownRow.holds Try.pinned (OpenSpec.ofChange Rows.wireDownSpec) :=
  OpenClaim.holds_of_wide 3 Try.f3 rfl rfl rfl rfl rfl rfl rfl ⟨rfl, rfl, rfl, rfl, rfl⟩ rfl rfl rfl rfl rfl (by kernel_rfl) Try.func3 (by kernel_rfl)
    (of_decide_eq_true (by kernel_rfl)) (by unfold Func.isWrapper; first | (rw [if_pos (by decide +kernel)]; kernel_rfl) | (rw [if_neg (by decide +kernel)]; exact ⟨rfl, rfl⟩))
    (fun os started H enc _ => lifted os started H enc)

theorem proved : Rows.WireDownSaid := over
#print axioms proved
end Go.Proofs.Ytofngihdnjgmeaa.wireDown
