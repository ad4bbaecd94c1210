/- The ways through usufructlaw10.WireUps. -/
import Derived.Test.YtofngihdnjgmeaaLWp
namespace Go.Proofs.Ytofngihdnjgmeaa
set_option maxRecDepth 100000
open Go.ChangeShapes Go.WideShapes Go.ChangeAt Go.RowKit
set_option linter.unusedVariables false

set_option maxHeartbeats 4000000 in
theorem ups_no (p0 : Pf) (A0 : Option Addr) (c0 : Nat) (hp0 : p0.full) (hc0 : p0.hs.length ≤ c0) (a1 : Int) (A2 : Option Addr) (c2 : Nat) (x2 : List Ho) (w : World) (hrow : Row w A0 p0.hs.length p0.hs) (hrow2 : Row w A2 x2.length x2) (hfew : fewP p0 = true) (n2 : decide ((40 : Int) < (x2.length : Int)) = false) (b1 : decide ((1099511627776 : Int) < a1) = false) (b2 : decide (a1 < -1099511627776) = false) (hrr : ∀ w, Row w A0 p0.hs.length p0.hs → Calls Try.prog 10 #[.agg (p0.fd A0 c0).cells.toArray] w fun e w' => e = .returned (.bool false) ∧ Below w.heap.size w w') (hup : ∀ w, Row w A0 p0.hs.length p0.hs → Row w A2 x2.length x2 → Calls Try.prog 12 #[.agg (p0.fd A0 c0).cells.toArray, .agg (rsc a1 A2 x2.length c2).toArray] w fun x u => ∃ A1 c1, x = .returned (.tuple #[.agg ((zP).fd A1 c1).cells.toArray, .int .i64 1]) ∧ Row u A1 (zP).hs.length (zP).hs ∧ Fresh w.heap.size A1 c1 (zP).hs ∧ Below w.heap.size w u) :
    Calls Try.prog 4 #[.agg (p0.fd A0 c0).cells.toArray, .int .i64 a1, .slice A2 x2.length c2] w fun e w' => e = .returned (.bool true) ∧ Below w.heap.size w w' := by
  have HFEW := Lib.hid hfew
  have HF := Lib.hid hp0
  have HK := Lib.hid (KeepF.start (w := w) (rows := [(A0, p0.hs.length, p0.hs), (A2, x2.length, x2)]) (by simp [hrow, hrow2]))
  have N2 := Lib.hid n2; have B1 := Lib.hid b1; have B2 := Lib.hid b2
  have HZ := Lib.hid zP_full
  have hsz := fun A c w h1 h2 => rsame_any zP zP_full A none c 0 w h1 h2
  clear hrow hrow2 hfew n2 b1 b2 hp0
  go_enter Try.func4, Try.ntmps4
  go_wp2_with (first
    | (with_reducible refine box_f HK.out rfl _ rfl rfl ?_; intro b1 u hk; clear HK; have HK := Lib.hid hk; clear hk)
    | (with_reducible refine load_fr HK.out 0 Try.underlying33 rfl (Pf.infoF HF.out) _ rfl rfl rfl rfl Pf.all ?_)
    | (with_reducible refine build_f1 HK.out rfl _ rfl HF.out rfl ?_; intro b2 u hk; clear HK; have HK := Lib.hid hk; clear hk)
    | (go_at_call 7; (with_reducible refine (few_f p0 HF.out A0 c0 _ _ HFEW.out _ (HK.out.get 0 rfl)).mono ?_); rintro e u ⟨rfl, hb⟩; have hk := HK.out.call hb; clear hb; clear HK; have HK := Lib.hid hk; clear hk)
    | (with_reducible refine load_fr HK.out 1 Try.underlying33 rfl (Pf.infoF HF.out) _ rfl rfl rfl rfl Pf.all ?_)
    | (with_reducible refine gtr_want N2.out _ _ _ rfl rfl rfl rfl ?_)
    | (with_reducible refine gtr_want B1.out _ _ _ rfl rfl rfl rfl ?_)
    | (with_reducible refine lss_want B2.out _ _ _ rfl rfl rfl rfl ?_)
    | (with_reducible refine build_r2 rfl _ _ rfl rfl rfl ?_)
    | (go_at_call 12; (with_reducible refine (hup _ (HK.out.rowAt 0 rfl) (HK.out.rowAt 1 rfl)).mono ?_); rintro e u ⟨A5, c5, rfl, r1, f1, hb⟩; have hk := HK.out.fresh hb r1 f1; clear hup hb r1 f1; clear HK; have HK := Lib.hid hk; clear hk)
    | (with_reducible refine alloc_f HK.out f_zeroP rfl rfl ?_; intro b7 u hk; clear HK; have HK := Lib.hid hk; clear hk)
    | (with_reducible refine store_fr HK.out 0 (Pf.infoF HZ.out) (Fd.one _) rfl rfl _ _ rfl rfl rfl rfl (Fd.leP zP_full HZ.out) (Fd.setAllP zP_full HZ.out) ?_; intro u hk; simp only [List.set_cons_zero] at hk; clear HK; have HK := Lib.hid hk; clear hk)
    | (with_reducible refine load_fr HK.out 2 Try.underlying33 rfl (Pf.infoF HF.out) _ rfl rfl rfl rfl Pf.all ?_)
    | (go_at_call 10; (with_reducible refine (hrr _ (HK.out.rowAt 1 rfl)).mono ?_); rintro e u ⟨rfl, hb⟩; have hk := HK.out.call hb; clear hb; clear HK; have HK := Lib.hid hk; clear hk)
    | (with_reducible refine load_f1 HK.out 2 cbI _ rfl rfl rfl rfl Pf.ce ?_)
    | (with_reducible refine load_f1 HK.out 2 cbH _ rfl rfl rfl rfl (Pf.cH HF.out) ?_)
    | (with_reducible refine load_fr HK.out 0 Try.underlying33 rfl (Pf.infoF HZ.out) _ rfl rfl rfl rfl Pf.all ?_)
    | (with_reducible refine build_fw f_buildP rfl rfl ?_)
    | (go_at_call 11; (with_reducible refine (hsz _ _ _ (HK.out.rowAt 0 rfl) (Row.nil _ _)).mono ?_); rintro e u ⟨rfl, hb⟩; have hk := HK.out.call hb; clear hb; clear HK; have HK := Lib.hid hk; clear hk)
    | (go_at_call 8; (with_reducible refine (awake_any _).mono ?_); rintro e u ⟨rfl, hb⟩; have hk := HK.out.call hb; clear hb; clear HK; have HK := Lib.hid hk; clear hk))
  go_ret
  exact ⟨rfl, HK.out.bel⟩
set_option maxHeartbeats 4000000 in
theorem ups_ep (p0 : Pf) (A0 : Option Addr) (c0 : Nat) (hp0 : p0.full) (hc0 : p0.hs.length ≤ c0) (a1 : Int) (A2 : Option Addr) (c2 : Nat) (x2 : List Ho) (w : World) (hrow : Row w A0 p0.hs.length p0.hs) (hrow2 : Row w A2 x2.length x2) (hfew : fewP p0 = true) (n2 : decide ((40 : Int) < (x2.length : Int)) = false) (b1 : decide ((1099511627776 : Int) < a1) = false) (b2 : decide (a1 < -1099511627776) = false) (hrr : ∀ w, Row w A0 p0.hs.length p0.hs → Calls Try.prog 10 #[.agg (p0.fd A0 c0).cells.toArray] w fun e w' => e = .returned (.bool true) ∧ Below w.heap.size w w') (e1 : (a1 != 0) = true) (e2 : (p0.e != 0) = true) (hup : ∀ w, Row w A0 p0.hs.length p0.hs → Row w A2 x2.length x2 → Calls Try.prog 12 #[.agg (p0.fd A0 c0).cells.toArray, .agg (rsc a1 A2 x2.length c2).toArray] w fun x u => ∃ A1 c1, x = .returned (.tuple #[.agg ((zP).fd A1 c1).cells.toArray, .int .i64 1]) ∧ Row u A1 (zP).hs.length (zP).hs ∧ Fresh w.heap.size A1 c1 (zP).hs ∧ Below w.heap.size w u) :
    Calls Try.prog 4 #[.agg (p0.fd A0 c0).cells.toArray, .int .i64 a1, .slice A2 x2.length c2] w fun e w' => e = .returned (.bool true) ∧ Below w.heap.size w w' := by
  have HFEW := Lib.hid hfew
  have HF := Lib.hid hp0
  have HK := Lib.hid (KeepF.start (w := w) (rows := [(A0, p0.hs.length, p0.hs), (A2, x2.length, x2)]) (by simp [hrow, hrow2]))
  have N2 := Lib.hid n2; have B1 := Lib.hid b1; have B2 := Lib.hid b2
  have HZ := Lib.hid zP_full
  have hsz := fun A c w h1 h2 => rsame_any zP zP_full A none c 0 w h1 h2
  clear hrow hrow2 hfew n2 b1 b2 hp0
  have E1X := Lib.hid e1; clear e1
  have E2X := Lib.hid e2; clear e2
  go_enter Try.func4, Try.ntmps4
  go_wp2_with (first
    | (with_reducible refine box_f HK.out rfl _ rfl rfl ?_; intro b1 u hk; clear HK; have HK := Lib.hid hk; clear hk)
    | (with_reducible refine load_fr HK.out 0 Try.underlying33 rfl (Pf.infoF HF.out) _ rfl rfl rfl rfl Pf.all ?_)
    | (with_reducible refine build_f1 HK.out rfl _ rfl HF.out rfl ?_; intro b2 u hk; clear HK; have HK := Lib.hid hk; clear hk)
    | (go_at_call 7; (with_reducible refine (few_f p0 HF.out A0 c0 _ _ HFEW.out _ (HK.out.get 0 rfl)).mono ?_); rintro e u ⟨rfl, hb⟩; have hk := HK.out.call hb; clear hb; clear HK; have HK := Lib.hid hk; clear hk)
    | (with_reducible refine load_fr HK.out 1 Try.underlying33 rfl (Pf.infoF HF.out) _ rfl rfl rfl rfl Pf.all ?_)
    | (with_reducible refine gtr_want N2.out _ _ _ rfl rfl rfl rfl ?_)
    | (with_reducible refine gtr_want B1.out _ _ _ rfl rfl rfl rfl ?_)
    | (with_reducible refine lss_want B2.out _ _ _ rfl rfl rfl rfl ?_)
    | (with_reducible refine build_r2 rfl _ _ rfl rfl rfl ?_)
    | (go_at_call 12; (with_reducible refine (hup _ (HK.out.rowAt 0 rfl) (HK.out.rowAt 1 rfl)).mono ?_); rintro e u ⟨A5, c5, rfl, r1, f1, hb⟩; have hk := HK.out.fresh hb r1 f1; clear hup hb r1 f1; clear HK; have HK := Lib.hid hk; clear hk)
    | (with_reducible refine alloc_f HK.out f_zeroP rfl rfl ?_; intro b7 u hk; clear HK; have HK := Lib.hid hk; clear hk)
    | (with_reducible refine store_fr HK.out 0 (Pf.infoF HZ.out) (Fd.one _) rfl rfl _ _ rfl rfl rfl rfl (Fd.leP zP_full HZ.out) (Fd.setAllP zP_full HZ.out) ?_; intro u hk; simp only [List.set_cons_zero] at hk; clear HK; have HK := Lib.hid hk; clear hk)
    | (with_reducible refine load_fr HK.out 2 Try.underlying33 rfl (Pf.infoF HF.out) _ rfl rfl rfl rfl Pf.all ?_)
    | (go_at_call 10; (with_reducible refine (hrr _ (HK.out.rowAt 1 rfl)).mono ?_); rintro e u ⟨rfl, hb⟩; have hk := HK.out.call hb; clear hb; clear HK; have HK := Lib.hid hk; clear hk)
    | (with_reducible refine neq_want E1X.out _ _ _ rfl rfl rfl rfl ?_)
    | (with_reducible refine neq_want E2X.out _ _ _ rfl rfl rfl rfl ?_)
    | (with_reducible refine load_f1 HK.out 2 cbI _ rfl rfl rfl rfl Pf.ce ?_)
    | (with_reducible refine load_f1 HK.out 2 cbH _ rfl rfl rfl rfl (Pf.cH HF.out) ?_)
    | (with_reducible refine load_fr HK.out 0 Try.underlying33 rfl (Pf.infoF HZ.out) _ rfl rfl rfl rfl Pf.all ?_)
    | (with_reducible refine build_fw f_buildP rfl rfl ?_)
    | (go_at_call 11; (with_reducible refine (hsz _ _ _ (HK.out.rowAt 0 rfl) (Row.nil _ _)).mono ?_); rintro e u ⟨rfl, hb⟩; have hk := HK.out.call hb; clear hb; clear HK; have HK := Lib.hid hk; clear hk)
    | (go_at_call 8; (with_reducible refine (awake_any _).mono ?_); rintro e u ⟨rfl, hb⟩; have hk := HK.out.call hb; clear hb; clear HK; have HK := Lib.hid hk; clear hk))
  go_ret
  exact ⟨rfl, HK.out.bel⟩
set_option maxHeartbeats 4000000 in
theorem ups_ho1 (p0 : Pf) (A0 : Option Addr) (c0 : Nat) (hp0 : p0.full) (hc0 : p0.hs.length ≤ c0) (a1 : Int) (A2 : Option Addr) (c2 : Nat) (x2 : List Ho) (w : World) (hrow : Row w A0 p0.hs.length p0.hs) (hrow2 : Row w A2 x2.length x2) (hfew : fewP p0 = true) (n2 : decide ((40 : Int) < (x2.length : Int)) = false) (b1 : decide ((1099511627776 : Int) < a1) = false) (b2 : decide (a1 < -1099511627776) = false) (hrr : ∀ w, Row w A0 p0.hs.length p0.hs → Calls Try.prog 10 #[.agg (p0.fd A0 c0).cells.toArray] w fun e w' => e = .returned (.bool true) ∧ Below w.heap.size w w') (e1 : (a1 != 0) = true) (e2 : (p0.e != 0) = false) (d1 : decide ((0 : Int) < (x2.length : Int)) = true) (d2 : decide ((0 : Int) < (p0.hs.length : Int)) = true) (hup : ∀ w, Row w A0 p0.hs.length p0.hs → Row w A2 x2.length x2 → Calls Try.prog 12 #[.agg (p0.fd A0 c0).cells.toArray, .agg (rsc a1 A2 x2.length c2).toArray] w fun x u => ∃ A1 c1, x = .returned (.tuple #[.agg ((zP).fd A1 c1).cells.toArray, .int .i64 1]) ∧ Row u A1 (zP).hs.length (zP).hs ∧ Fresh w.heap.size A1 c1 (zP).hs ∧ Below w.heap.size w u) :
    Calls Try.prog 4 #[.agg (p0.fd A0 c0).cells.toArray, .int .i64 a1, .slice A2 x2.length c2] w fun e w' => e = .returned (.bool true) ∧ Below w.heap.size w w' := by
  have HFEW := Lib.hid hfew
  have HF := Lib.hid hp0
  have HK := Lib.hid (KeepF.start (w := w) (rows := [(A0, p0.hs.length, p0.hs), (A2, x2.length, x2)]) (by simp [hrow, hrow2]))
  have N2 := Lib.hid n2; have B1 := Lib.hid b1; have B2 := Lib.hid b2
  have HZ := Lib.hid zP_full
  have hsz := fun A c w h1 h2 => rsame_any zP zP_full A none c 0 w h1 h2
  clear hrow hrow2 hfew n2 b1 b2 hp0
  have E1X := Lib.hid e1; clear e1
  have E2X := Lib.hid e2; clear e2
  have D1X := Lib.hid d1; clear d1
  have D2X := Lib.hid d2; clear d2
  go_enter Try.func4, Try.ntmps4
  go_wp2_with (first
    | (with_reducible refine box_f HK.out rfl _ rfl rfl ?_; intro b1 u hk; clear HK; have HK := Lib.hid hk; clear hk)
    | (with_reducible refine load_fr HK.out 0 Try.underlying33 rfl (Pf.infoF HF.out) _ rfl rfl rfl rfl Pf.all ?_)
    | (with_reducible refine build_f1 HK.out rfl _ rfl HF.out rfl ?_; intro b2 u hk; clear HK; have HK := Lib.hid hk; clear hk)
    | (go_at_call 7; (with_reducible refine (few_f p0 HF.out A0 c0 _ _ HFEW.out _ (HK.out.get 0 rfl)).mono ?_); rintro e u ⟨rfl, hb⟩; have hk := HK.out.call hb; clear hb; clear HK; have HK := Lib.hid hk; clear hk)
    | (with_reducible refine load_fr HK.out 1 Try.underlying33 rfl (Pf.infoF HF.out) _ rfl rfl rfl rfl Pf.all ?_)
    | (with_reducible refine gtr_want N2.out _ _ _ rfl rfl rfl rfl ?_)
    | (with_reducible refine gtr_want B1.out _ _ _ rfl rfl rfl rfl ?_)
    | (with_reducible refine lss_want B2.out _ _ _ rfl rfl rfl rfl ?_)
    | (with_reducible refine build_r2 rfl _ _ rfl rfl rfl ?_)
    | (go_at_call 12; (with_reducible refine (hup _ (HK.out.rowAt 0 rfl) (HK.out.rowAt 1 rfl)).mono ?_); rintro e u ⟨A5, c5, rfl, r1, f1, hb⟩; have hk := HK.out.fresh hb r1 f1; clear hup hb r1 f1; clear HK; have HK := Lib.hid hk; clear hk)
    | (with_reducible refine alloc_f HK.out f_zeroP rfl rfl ?_; intro b7 u hk; clear HK; have HK := Lib.hid hk; clear hk)
    | (with_reducible refine store_fr HK.out 0 (Pf.infoF HZ.out) (Fd.one _) rfl rfl _ _ rfl rfl rfl rfl (Fd.leP zP_full HZ.out) (Fd.setAllP zP_full HZ.out) ?_; intro u hk; simp only [List.set_cons_zero] at hk; clear HK; have HK := Lib.hid hk; clear hk)
    | (with_reducible refine load_fr HK.out 2 Try.underlying33 rfl (Pf.infoF HF.out) _ rfl rfl rfl rfl Pf.all ?_)
    | (go_at_call 10; (with_reducible refine (hrr _ (HK.out.rowAt 1 rfl)).mono ?_); rintro e u ⟨rfl, hb⟩; have hk := HK.out.call hb; clear hb; clear HK; have HK := Lib.hid hk; clear hk)
    | (with_reducible refine neq_want E1X.out _ _ _ rfl rfl rfl rfl ?_)
    | (with_reducible refine neq_want E2X.out _ _ _ rfl rfl rfl rfl ?_)
    | (with_reducible refine gtr_want D1X.out _ _ _ rfl rfl rfl rfl ?_)
    | (with_reducible refine gtr_want D2X.out _ _ _ rfl rfl rfl rfl ?_)
    | (with_reducible refine load_f1 HK.out 2 cbI _ rfl rfl rfl rfl Pf.ce ?_)
    | (with_reducible refine load_f1 HK.out 2 cbH _ rfl rfl rfl rfl (Pf.cH HF.out) ?_)
    | (with_reducible refine load_fr HK.out 0 Try.underlying33 rfl (Pf.infoF HZ.out) _ rfl rfl rfl rfl Pf.all ?_)
    | (with_reducible refine build_fw f_buildP rfl rfl ?_)
    | (go_at_call 11; (with_reducible refine (hsz _ _ _ (HK.out.rowAt 0 rfl) (Row.nil _ _)).mono ?_); rintro e u ⟨rfl, hb⟩; have hk := HK.out.call hb; clear hb; clear HK; have HK := Lib.hid hk; clear hk)
    | (go_at_call 8; (with_reducible refine (awake_any _).mono ?_); rintro e u ⟨rfl, hb⟩; have hk := HK.out.call hb; clear hb; clear HK; have HK := Lib.hid hk; clear hk))
  go_ret
  exact ⟨rfl, HK.out.bel⟩
set_option maxHeartbeats 4000000 in
theorem ups_11true (p0 : Pf) (A0 : Option Addr) (c0 : Nat) (hp0 : p0.full) (hc0 : p0.hs.length ≤ c0) (a1 : Int) (A2 : Option Addr) (c2 : Nat) (x2 : List Ho) (w : World) (hrow : Row w A0 p0.hs.length p0.hs) (hrow2 : Row w A2 x2.length x2) (hfew : fewP p0 = true) (n2 : decide ((40 : Int) < (x2.length : Int)) = false) (b1 : decide ((1099511627776 : Int) < a1) = false) (b2 : decide (a1 < -1099511627776) = false) (hrr : ∀ w, Row w A0 p0.hs.length p0.hs → Calls Try.prog 10 #[.agg (p0.fd A0 c0).cells.toArray] w fun e w' => e = .returned (.bool true) ∧ Below w.heap.size w w') (e1 : (a1 != 0) = true) (e2 : (p0.e != 0) = false) (d1 : decide ((0 : Int) < (x2.length : Int)) = true) (d2 : decide ((0 : Int) < (p0.hs.length : Int)) = false) (S : Int) (R : List Ho) (hup : ∀ w, Row w A0 p0.hs.length p0.hs → Row w A2 x2.length x2 → Calls Try.prog 12 #[.agg (p0.fd A0 c0).cells.toArray, .agg (rsc a1 A2 x2.length c2).toArray] w fun x u => ∃ A1 c1, x = .returned (.tuple #[.agg ((((p0.setE S).setH R)).fd A1 c1).cells.toArray, .int .i64 0]) ∧ Row u A1 (((p0.setE S).setH R)).hs.length (((p0.setE S).setH R)).hs ∧ Fresh w.heap.size A1 c1 (((p0.setE S).setH R)).hs ∧ Below w.heap.size w u) (hR : p0.hs ++ x2 = R) (hM : R.length ≤ 1000) (hS : IntKind.i64.wrap (p0.e + a1) = S) (hrq : ∀ A c w, Row w A ((p0.setE S).setH R).hs.length ((p0.setE S).setH R).hs → Calls Try.prog 10 #[.agg (((p0.setE S).setH R).fd A c).cells.toArray] w fun e w' => e = .returned (.bool true) ∧ Below w.heap.size w w') :
    Calls Try.prog 4 #[.agg (p0.fd A0 c0).cells.toArray, .int .i64 a1, .slice A2 x2.length c2] w fun e w' => e = .returned (.bool true) ∧ Below w.heap.size w w' := by
  have HL := Lib.hid (show p0.hs.length + x2.length ≤ 2000 by rw [← hR, List.length_append] at hM; omega)
  have HL0 := Lib.hid (show 0 + p0.hs.length ≤ 2000 by have := HL.out; omega)
  have HFEW := Lib.hid hfew
  have HF := Lib.hid hp0
  have HK := Lib.hid (KeepF.start (w := w) (rows := [(A0, p0.hs.length, p0.hs), (A2, x2.length, x2)]) (by simp [hrow, hrow2]))
  have N2 := Lib.hid n2; have B1 := Lib.hid b1; have B2 := Lib.hid b2
  have HZ := Lib.hid zP_full
  have hsz := fun A c w h1 h2 => rsame_any zP zP_full A none c 0 w h1 h2
  clear hrow hrow2 hfew n2 b1 b2 hp0
  have E1X := Lib.hid e1; clear e1
  have E2X := Lib.hid e2; clear e2
  have D1X := Lib.hid d1; clear d1
  have D2X := Lib.hid d2; clear d2
  have HG := Lib.hid (show (p0.setE S).full from HF.out)
  have HI := Lib.hid (show ((p0.setE S).setH R).full from HF.out)
  have HR := Lib.hid hR; clear hR
  have hsq := fun A B c d w k1 k2 => rsame_any ((p0.setE S).setH R) HF.out A B c d w k1 k2
  go_enter Try.func4, Try.ntmps4
  go_wp2_with (first
    | (with_reducible refine box_f HK.out rfl _ rfl rfl ?_; intro b1 u hk; clear HK; have HK := Lib.hid hk; clear hk)
    | (with_reducible refine load_fr HK.out 0 Try.underlying33 rfl (Pf.infoF HF.out) _ rfl rfl rfl rfl Pf.all ?_)
    | (with_reducible refine build_f1 HK.out rfl _ rfl HF.out rfl ?_; intro b2 u hk; clear HK; have HK := Lib.hid hk; clear hk)
    | (go_at_call 7; (with_reducible refine (few_f p0 HF.out A0 c0 _ _ HFEW.out _ (HK.out.get 0 rfl)).mono ?_); rintro e u ⟨rfl, hb⟩; have hk := HK.out.call hb; clear hb; clear HK; have HK := Lib.hid hk; clear hk)
    | (with_reducible refine load_fr HK.out 1 Try.underlying33 rfl (Pf.infoF HF.out) _ rfl rfl rfl rfl Pf.all ?_)
    | (with_reducible refine gtr_want N2.out _ _ _ rfl rfl rfl rfl ?_)
    | (with_reducible refine gtr_want B1.out _ _ _ rfl rfl rfl rfl ?_)
    | (with_reducible refine lss_want B2.out _ _ _ rfl rfl rfl rfl ?_)
    | (with_reducible refine build_r2 rfl _ _ rfl rfl rfl ?_)
    | (go_at_call 12; (with_reducible refine (hup _ (HK.out.rowAt 0 rfl) (HK.out.rowAt 1 rfl)).mono ?_); rintro e u ⟨A5, c5, rfl, r1, f1, hb⟩; have hk := HK.out.fresh hb r1 f1; clear hup hb r1 f1; clear HK; have HK := Lib.hid hk; clear hk)
    | (with_reducible refine alloc_f HK.out f_zeroP rfl rfl ?_; intro b7 u hk; clear HK; have HK := Lib.hid hk; clear hk)
    | (with_reducible refine store_fr HK.out 0 (Pf.infoF HI.out) (Fd.one _) rfl rfl _ _ rfl rfl rfl rfl (Fd.leP zP_full HI.out) (Fd.setAllP zP_full HI.out) ?_; intro u hk; simp only [List.set_cons_zero] at hk; clear HK; have HK := Lib.hid hk; clear hk)
    | (with_reducible refine load_fr HK.out 2 Try.underlying33 rfl (Pf.infoF HF.out) _ rfl rfl rfl rfl Pf.all ?_)
    | (go_at_call 10; (with_reducible refine (hrr _ (HK.out.rowAt 1 rfl)).mono ?_); rintro e u ⟨rfl, hb⟩; have hk := HK.out.call hb; clear hb; clear HK; have HK := Lib.hid hk; clear hk)
    | (with_reducible refine neq_want E1X.out _ _ _ rfl rfl rfl rfl ?_)
    | (with_reducible refine neq_want E2X.out _ _ _ rfl rfl rfl rfl ?_)
    | (with_reducible refine gtr_want D1X.out _ _ _ rfl rfl rfl rfl ?_)
    | (with_reducible refine gtr_want D2X.out _ _ _ rfl rfl rfl rfl ?_)
    | (with_reducible refine load_f1 HK.out 2 cbI _ rfl rfl rfl rfl Pf.ce ?_)
    | (with_reducible refine load_f1 HK.out 2 cbH _ rfl rfl rfl rfl (Pf.cH HF.out) ?_)
    | (with_reducible refine store_fr HK.out 0 (Pf.infoF HF.out) (Fd.one _) rfl rfl _ _ rfl rfl rfl rfl (Fd.leP zP_full HF.out) (Fd.setAllP zP_full HF.out) ?_; intro u hk; simp only [List.set_cons_zero] at hk; clear HK; have HK := Lib.hid hk; clear hk)
    | (with_reducible refine load_f1 HK.out 0 cbI _ rfl rfl rfl rfl Pf.ce ?_)
    | (with_reducible refine store_f1 HK.out 0 cbI rfl rfl _ _ rfl rfl rfl rfl rfl (Pf.lt2 HF.out) (Pf.toE' S) ?_; intro u hk; simp only [List.set_cons_zero] at hk; clear HK; have HK := Lib.hid hk; clear hk)
    | (with_reducible refine build_p HK.out rfl rfl ?_; intro A8 c8 u hp; have HP := Lib.hid hp; have hk := hp.keep; clear hp; clear HK; have HK := Lib.hid hk; clear hk)
    | (with_reducible refine load_f1 HK.out 3 cbH _ rfl rfl rfl rfl (Pf.cH HF.out) ?_)
    | (with_reducible refine app_p HP.out rfl _ _ rfl rfl rfl (HP.out.keep.rowAt 1 rfl) (List.nil_append _) HL0.out ?_; intro A9 c9 u hp; clear HP; have HP := Lib.hid hp; have hk := hp.keep; clear hp; clear HK; have HK := Lib.hid hk; clear hk)
    | (with_reducible refine app_p HP.out rfl _ _ rfl rfl rfl (HP.out.keep.rowAt 2 rfl) HR.out HL.out ?_; intro A10 c10 u hp; clear HP; have hk := hp.done hM; clear hp; clear HK; have HK := Lib.hid hk; clear hk)
    | (with_reducible refine store_f1 HK.out 0 cbH rfl rfl _ _ rfl rfl rfl rfl rfl (Fd.ltH HG.out) (Pf.toH HG.out A10 c10 R) ?_; intro u hk; simp only [List.set_cons_zero] at hk; clear HK; have HK := Lib.hid hk; clear hk)
    | (with_reducible refine load_fr HK.out 0 Try.underlying33 rfl (Pf.infoF HI.out) _ rfl rfl rfl rfl Pf.all ?_)
    | (go_at_call 10; (with_reducible refine (hrq _ _ _ (HK.out.rowAt 0 rfl)).mono ?_); rintro e u ⟨rfl, hb⟩; have hk := HK.out.call hb; clear hb; clear HK; have HK := Lib.hid hk; clear hk)
    | (with_reducible refine load_fr HK.out 1 Try.underlying33 rfl (Pf.infoF HI.out) _ rfl rfl rfl rfl Pf.all ?_)
    | (go_at_call 11; (with_reducible refine (hsq _ _ _ _ _ (HK.out.rowAt 1 rfl) (HK.out.rowAt 0 rfl)).mono ?_); rintro e u ⟨rfl, hb⟩; have hk := HK.out.call hb; clear hb; clear HK; have HK := Lib.hid hk; clear hk)
    | (go_at_call 8; (with_reducible refine (awake_any _).mono ?_); rintro e u ⟨rfl, hb⟩; have hk := HK.out.call hb; clear hb; clear HK; have HK := Lib.hid hk; clear hk))
  go_ret
  exact ⟨rfl, HK.out.bel⟩
set_option maxHeartbeats 4000000 in
theorem ups_11false (p0 : Pf) (A0 : Option Addr) (c0 : Nat) (hp0 : p0.full) (hc0 : p0.hs.length ≤ c0) (a1 : Int) (A2 : Option Addr) (c2 : Nat) (x2 : List Ho) (w : World) (hrow : Row w A0 p0.hs.length p0.hs) (hrow2 : Row w A2 x2.length x2) (hfew : fewP p0 = true) (n2 : decide ((40 : Int) < (x2.length : Int)) = false) (b1 : decide ((1099511627776 : Int) < a1) = false) (b2 : decide (a1 < -1099511627776) = false) (hrr : ∀ w, Row w A0 p0.hs.length p0.hs → Calls Try.prog 10 #[.agg (p0.fd A0 c0).cells.toArray] w fun e w' => e = .returned (.bool true) ∧ Below w.heap.size w w') (e1 : (a1 != 0) = true) (e2 : (p0.e != 0) = false) (d1 : decide ((0 : Int) < (x2.length : Int)) = true) (d2 : decide ((0 : Int) < (p0.hs.length : Int)) = false) (S : Int) (R : List Ho) (hup : ∀ w, Row w A0 p0.hs.length p0.hs → Row w A2 x2.length x2 → Calls Try.prog 12 #[.agg (p0.fd A0 c0).cells.toArray, .agg (rsc a1 A2 x2.length c2).toArray] w fun x u => ∃ A1 c1, x = .returned (.tuple #[.agg ((zP).fd A1 c1).cells.toArray, .int .i64 4]) ∧ Row u A1 (zP).hs.length (zP).hs ∧ Fresh w.heap.size A1 c1 (zP).hs ∧ Below w.heap.size w u) (hR : p0.hs ++ x2 = R) (hM : R.length ≤ 1000) (hS : IntKind.i64.wrap (p0.e + a1) = S) (hrq : ∀ A c w, Row w A ((p0.setE S).setH R).hs.length ((p0.setE S).setH R).hs → Calls Try.prog 10 #[.agg (((p0.setE S).setH R).fd A c).cells.toArray] w fun e w' => e = .returned (.bool false) ∧ Below w.heap.size w w') :
    Calls Try.prog 4 #[.agg (p0.fd A0 c0).cells.toArray, .int .i64 a1, .slice A2 x2.length c2] w fun e w' => e = .returned (.bool true) ∧ Below w.heap.size w w' := by
  have HL := Lib.hid (show p0.hs.length + x2.length ≤ 2000 by rw [← hR, List.length_append] at hM; omega)
  have HL0 := Lib.hid (show 0 + p0.hs.length ≤ 2000 by have := HL.out; omega)
  have HFEW := Lib.hid hfew
  have HF := Lib.hid hp0
  have HK := Lib.hid (KeepF.start (w := w) (rows := [(A0, p0.hs.length, p0.hs), (A2, x2.length, x2)]) (by simp [hrow, hrow2]))
  have N2 := Lib.hid n2; have B1 := Lib.hid b1; have B2 := Lib.hid b2
  have HZ := Lib.hid zP_full
  have hsz := fun A c w h1 h2 => rsame_any zP zP_full A none c 0 w h1 h2
  clear hrow hrow2 hfew n2 b1 b2 hp0
  have E1X := Lib.hid e1; clear e1
  have E2X := Lib.hid e2; clear e2
  have D1X := Lib.hid d1; clear d1
  have D2X := Lib.hid d2; clear d2
  have HG := Lib.hid (show (p0.setE S).full from HF.out)
  have HI := Lib.hid (show ((p0.setE S).setH R).full from HF.out)
  have HR := Lib.hid hR; clear hR
  go_enter Try.func4, Try.ntmps4
  go_wp2_with (first
    | (with_reducible refine box_f HK.out rfl _ rfl rfl ?_; intro b1 u hk; clear HK; have HK := Lib.hid hk; clear hk)
    | (with_reducible refine load_fr HK.out 0 Try.underlying33 rfl (Pf.infoF HF.out) _ rfl rfl rfl rfl Pf.all ?_)
    | (with_reducible refine build_f1 HK.out rfl _ rfl HF.out rfl ?_; intro b2 u hk; clear HK; have HK := Lib.hid hk; clear hk)
    | (go_at_call 7; (with_reducible refine (few_f p0 HF.out A0 c0 _ _ HFEW.out _ (HK.out.get 0 rfl)).mono ?_); rintro e u ⟨rfl, hb⟩; have hk := HK.out.call hb; clear hb; clear HK; have HK := Lib.hid hk; clear hk)
    | (with_reducible refine load_fr HK.out 1 Try.underlying33 rfl (Pf.infoF HF.out) _ rfl rfl rfl rfl Pf.all ?_)
    | (with_reducible refine gtr_want N2.out _ _ _ rfl rfl rfl rfl ?_)
    | (with_reducible refine gtr_want B1.out _ _ _ rfl rfl rfl rfl ?_)
    | (with_reducible refine lss_want B2.out _ _ _ rfl rfl rfl rfl ?_)
    | (with_reducible refine build_r2 rfl _ _ rfl rfl rfl ?_)
    | (go_at_call 12; (with_reducible refine (hup _ (HK.out.rowAt 0 rfl) (HK.out.rowAt 1 rfl)).mono ?_); rintro e u ⟨A5, c5, rfl, r1, f1, hb⟩; have hk := HK.out.fresh hb r1 f1; clear hup hb r1 f1; clear HK; have HK := Lib.hid hk; clear hk)
    | (with_reducible refine alloc_f HK.out f_zeroP rfl rfl ?_; intro b7 u hk; clear HK; have HK := Lib.hid hk; clear hk)
    | (with_reducible refine store_fr HK.out 0 (Pf.infoF HZ.out) (Fd.one _) rfl rfl _ _ rfl rfl rfl rfl (Fd.leP zP_full HZ.out) (Fd.setAllP zP_full HZ.out) ?_; intro u hk; simp only [List.set_cons_zero] at hk; clear HK; have HK := Lib.hid hk; clear hk)
    | (with_reducible refine load_fr HK.out 2 Try.underlying33 rfl (Pf.infoF HF.out) _ rfl rfl rfl rfl Pf.all ?_)
    | (go_at_call 10; (with_reducible refine (hrr _ (HK.out.rowAt 1 rfl)).mono ?_); rintro e u ⟨rfl, hb⟩; have hk := HK.out.call hb; clear hb; clear HK; have HK := Lib.hid hk; clear hk)
    | (with_reducible refine neq_want E1X.out _ _ _ rfl rfl rfl rfl ?_)
    | (with_reducible refine neq_want E2X.out _ _ _ rfl rfl rfl rfl ?_)
    | (with_reducible refine gtr_want D1X.out _ _ _ rfl rfl rfl rfl ?_)
    | (with_reducible refine gtr_want D2X.out _ _ _ rfl rfl rfl rfl ?_)
    | (with_reducible refine load_f1 HK.out 2 cbI _ rfl rfl rfl rfl Pf.ce ?_)
    | (with_reducible refine load_f1 HK.out 2 cbH _ rfl rfl rfl rfl (Pf.cH HF.out) ?_)
    | (with_reducible refine store_fr HK.out 0 (Pf.infoF HF.out) (Fd.one _) rfl rfl _ _ rfl rfl rfl rfl (Fd.leP zP_full HF.out) (Fd.setAllP zP_full HF.out) ?_; intro u hk; simp only [List.set_cons_zero] at hk; clear HK; have HK := Lib.hid hk; clear hk)
    | (with_reducible refine load_f1 HK.out 0 cbI _ rfl rfl rfl rfl Pf.ce ?_)
    | (with_reducible refine store_f1 HK.out 0 cbI rfl rfl _ _ rfl rfl rfl rfl rfl (Pf.lt2 HF.out) (Pf.toE' S) ?_; intro u hk; simp only [List.set_cons_zero] at hk; clear HK; have HK := Lib.hid hk; clear hk)
    | (with_reducible refine build_p HK.out rfl rfl ?_; intro A8 c8 u hp; have HP := Lib.hid hp; have hk := hp.keep; clear hp; clear HK; have HK := Lib.hid hk; clear hk)
    | (with_reducible refine load_f1 HK.out 3 cbH _ rfl rfl rfl rfl (Pf.cH HF.out) ?_)
    | (with_reducible refine app_p HP.out rfl _ _ rfl rfl rfl (HP.out.keep.rowAt 1 rfl) (List.nil_append _) HL0.out ?_; intro A9 c9 u hp; clear HP; have HP := Lib.hid hp; have hk := hp.keep; clear hp; clear HK; have HK := Lib.hid hk; clear hk)
    | (with_reducible refine app_p HP.out rfl _ _ rfl rfl rfl (HP.out.keep.rowAt 2 rfl) HR.out HL.out ?_; intro A10 c10 u hp; clear HP; have hk := hp.done hM; clear hp; clear HK; have HK := Lib.hid hk; clear hk)
    | (with_reducible refine store_f1 HK.out 0 cbH rfl rfl _ _ rfl rfl rfl rfl rfl (Fd.ltH HG.out) (Pf.toH HG.out A10 c10 R) ?_; intro u hk; simp only [List.set_cons_zero] at hk; clear HK; have HK := Lib.hid hk; clear hk)
    | (with_reducible refine load_fr HK.out 0 Try.underlying33 rfl (Pf.infoF HI.out) _ rfl rfl rfl rfl Pf.all ?_)
    | (go_at_call 10; (with_reducible refine (hrq _ _ _ (HK.out.rowAt 0 rfl)).mono ?_); rintro e u ⟨rfl, hb⟩; have hk := HK.out.call hb; clear hb; clear HK; have HK := Lib.hid hk; clear hk)
    | (with_reducible refine load_fr HK.out 1 Try.underlying33 rfl (Pf.infoF HZ.out) _ rfl rfl rfl rfl Pf.all ?_)
    | (with_reducible refine build_fw f_buildP rfl rfl ?_)
    | (go_at_call 11; (with_reducible refine (hsz _ _ _ (HK.out.rowAt 1 rfl) (Row.nil _ _)).mono ?_); rintro e u ⟨rfl, hb⟩; have hk := HK.out.call hb; clear hb; clear HK; have HK := Lib.hid hk; clear hk)
    | (go_at_call 8; (with_reducible refine (awake_any _).mono ?_); rintro e u ⟨rfl, hb⟩; have hk := HK.out.call hb; clear hb; clear HK; have HK := Lib.hid hk; clear hk))
  go_ret
  exact ⟨rfl, HK.out.bel⟩
set_option maxHeartbeats 4000000 in
theorem ups_10true (p0 : Pf) (A0 : Option Addr) (c0 : Nat) (hp0 : p0.full) (hc0 : p0.hs.length ≤ c0) (a1 : Int) (A2 : Option Addr) (c2 : Nat) (x2 : List Ho) (w : World) (hrow : Row w A0 p0.hs.length p0.hs) (hrow2 : Row w A2 x2.length x2) (hfew : fewP p0 = true) (n2 : decide ((40 : Int) < (x2.length : Int)) = false) (b1 : decide ((1099511627776 : Int) < a1) = false) (b2 : decide (a1 < -1099511627776) = false) (hrr : ∀ w, Row w A0 p0.hs.length p0.hs → Calls Try.prog 10 #[.agg (p0.fd A0 c0).cells.toArray] w fun e w' => e = .returned (.bool true) ∧ Below w.heap.size w w') (e1 : (a1 != 0) = true) (e2 : (p0.e != 0) = false) (d1 : decide ((0 : Int) < (x2.length : Int)) = false) (S : Int) (R : List Ho) (hup : ∀ w, Row w A0 p0.hs.length p0.hs → Row w A2 x2.length x2 → Calls Try.prog 12 #[.agg (p0.fd A0 c0).cells.toArray, .agg (rsc a1 A2 x2.length c2).toArray] w fun x u => ∃ A1 c1, x = .returned (.tuple #[.agg ((((p0.setE S).setH R)).fd A1 c1).cells.toArray, .int .i64 0]) ∧ Row u A1 (((p0.setE S).setH R)).hs.length (((p0.setE S).setH R)).hs ∧ Fresh w.heap.size A1 c1 (((p0.setE S).setH R)).hs ∧ Below w.heap.size w u) (hR : p0.hs ++ x2 = R) (hM : R.length ≤ 1000) (hS : IntKind.i64.wrap (p0.e + a1) = S) (hrq : ∀ A c w, Row w A ((p0.setE S).setH R).hs.length ((p0.setE S).setH R).hs → Calls Try.prog 10 #[.agg (((p0.setE S).setH R).fd A c).cells.toArray] w fun e w' => e = .returned (.bool true) ∧ Below w.heap.size w w') :
    Calls Try.prog 4 #[.agg (p0.fd A0 c0).cells.toArray, .int .i64 a1, .slice A2 x2.length c2] w fun e w' => e = .returned (.bool true) ∧ Below w.heap.size w w' := by
  have HL := Lib.hid (show p0.hs.length + x2.length ≤ 2000 by rw [← hR, List.length_append] at hM; omega)
  have HL0 := Lib.hid (show 0 + p0.hs.length ≤ 2000 by have := HL.out; omega)
  have HFEW := Lib.hid hfew
  have HF := Lib.hid hp0
  have HK := Lib.hid (KeepF.start (w := w) (rows := [(A0, p0.hs.length, p0.hs), (A2, x2.length, x2)]) (by simp [hrow, hrow2]))
  have N2 := Lib.hid n2; have B1 := Lib.hid b1; have B2 := Lib.hid b2
  have HZ := Lib.hid zP_full
  have hsz := fun A c w h1 h2 => rsame_any zP zP_full A none c 0 w h1 h2
  clear hrow hrow2 hfew n2 b1 b2 hp0
  have E1X := Lib.hid e1; clear e1
  have E2X := Lib.hid e2; clear e2
  have D1X := Lib.hid d1; clear d1
  have HG := Lib.hid (show (p0.setE S).full from HF.out)
  have HI := Lib.hid (show ((p0.setE S).setH R).full from HF.out)
  have HR := Lib.hid hR; clear hR
  have hsq := fun A B c d w k1 k2 => rsame_any ((p0.setE S).setH R) HF.out A B c d w k1 k2
  go_enter Try.func4, Try.ntmps4
  go_wp2_with (first
    | (with_reducible refine box_f HK.out rfl _ rfl rfl ?_; intro b1 u hk; clear HK; have HK := Lib.hid hk; clear hk)
    | (with_reducible refine load_fr HK.out 0 Try.underlying33 rfl (Pf.infoF HF.out) _ rfl rfl rfl rfl Pf.all ?_)
    | (with_reducible refine build_f1 HK.out rfl _ rfl HF.out rfl ?_; intro b2 u hk; clear HK; have HK := Lib.hid hk; clear hk)
    | (go_at_call 7; (with_reducible refine (few_f p0 HF.out A0 c0 _ _ HFEW.out _ (HK.out.get 0 rfl)).mono ?_); rintro e u ⟨rfl, hb⟩; have hk := HK.out.call hb; clear hb; clear HK; have HK := Lib.hid hk; clear hk)
    | (with_reducible refine load_fr HK.out 1 Try.underlying33 rfl (Pf.infoF HF.out) _ rfl rfl rfl rfl Pf.all ?_)
    | (with_reducible refine gtr_want N2.out _ _ _ rfl rfl rfl rfl ?_)
    | (with_reducible refine gtr_want B1.out _ _ _ rfl rfl rfl rfl ?_)
    | (with_reducible refine lss_want B2.out _ _ _ rfl rfl rfl rfl ?_)
    | (with_reducible refine build_r2 rfl _ _ rfl rfl rfl ?_)
    | (go_at_call 12; (with_reducible refine (hup _ (HK.out.rowAt 0 rfl) (HK.out.rowAt 1 rfl)).mono ?_); rintro e u ⟨A5, c5, rfl, r1, f1, hb⟩; have hk := HK.out.fresh hb r1 f1; clear hup hb r1 f1; clear HK; have HK := Lib.hid hk; clear hk)
    | (with_reducible refine alloc_f HK.out f_zeroP rfl rfl ?_; intro b7 u hk; clear HK; have HK := Lib.hid hk; clear hk)
    | (with_reducible refine store_fr HK.out 0 (Pf.infoF HI.out) (Fd.one _) rfl rfl _ _ rfl rfl rfl rfl (Fd.leP zP_full HI.out) (Fd.setAllP zP_full HI.out) ?_; intro u hk; simp only [List.set_cons_zero] at hk; clear HK; have HK := Lib.hid hk; clear hk)
    | (with_reducible refine load_fr HK.out 2 Try.underlying33 rfl (Pf.infoF HF.out) _ rfl rfl rfl rfl Pf.all ?_)
    | (go_at_call 10; (with_reducible refine (hrr _ (HK.out.rowAt 1 rfl)).mono ?_); rintro e u ⟨rfl, hb⟩; have hk := HK.out.call hb; clear hb; clear HK; have HK := Lib.hid hk; clear hk)
    | (with_reducible refine neq_want E1X.out _ _ _ rfl rfl rfl rfl ?_)
    | (with_reducible refine neq_want E2X.out _ _ _ rfl rfl rfl rfl ?_)
    | (with_reducible refine gtr_want D1X.out _ _ _ rfl rfl rfl rfl ?_)
    | (with_reducible refine load_f1 HK.out 2 cbI _ rfl rfl rfl rfl Pf.ce ?_)
    | (with_reducible refine load_f1 HK.out 2 cbH _ rfl rfl rfl rfl (Pf.cH HF.out) ?_)
    | (with_reducible refine store_fr HK.out 0 (Pf.infoF HF.out) (Fd.one _) rfl rfl _ _ rfl rfl rfl rfl (Fd.leP zP_full HF.out) (Fd.setAllP zP_full HF.out) ?_; intro u hk; simp only [List.set_cons_zero] at hk; clear HK; have HK := Lib.hid hk; clear hk)
    | (with_reducible refine load_f1 HK.out 0 cbI _ rfl rfl rfl rfl Pf.ce ?_)
    | (with_reducible refine store_f1 HK.out 0 cbI rfl rfl _ _ rfl rfl rfl rfl rfl (Pf.lt2 HF.out) (Pf.toE' S) ?_; intro u hk; simp only [List.set_cons_zero] at hk; clear HK; have HK := Lib.hid hk; clear hk)
    | (with_reducible refine build_p HK.out rfl rfl ?_; intro A8 c8 u hp; have HP := Lib.hid hp; have hk := hp.keep; clear hp; clear HK; have HK := Lib.hid hk; clear hk)
    | (with_reducible refine load_f1 HK.out 3 cbH _ rfl rfl rfl rfl (Pf.cH HF.out) ?_)
    | (with_reducible refine app_p HP.out rfl _ _ rfl rfl rfl (HP.out.keep.rowAt 1 rfl) (List.nil_append _) HL0.out ?_; intro A9 c9 u hp; clear HP; have HP := Lib.hid hp; have hk := hp.keep; clear hp; clear HK; have HK := Lib.hid hk; clear hk)
    | (with_reducible refine app_p HP.out rfl _ _ rfl rfl rfl (HP.out.keep.rowAt 2 rfl) HR.out HL.out ?_; intro A10 c10 u hp; clear HP; have hk := hp.done hM; clear hp; clear HK; have HK := Lib.hid hk; clear hk)
    | (with_reducible refine store_f1 HK.out 0 cbH rfl rfl _ _ rfl rfl rfl rfl rfl (Fd.ltH HG.out) (Pf.toH HG.out A10 c10 R) ?_; intro u hk; simp only [List.set_cons_zero] at hk; clear HK; have HK := Lib.hid hk; clear hk)
    | (with_reducible refine load_fr HK.out 0 Try.underlying33 rfl (Pf.infoF HI.out) _ rfl rfl rfl rfl Pf.all ?_)
    | (go_at_call 10; (with_reducible refine (hrq _ _ _ (HK.out.rowAt 0 rfl)).mono ?_); rintro e u ⟨rfl, hb⟩; have hk := HK.out.call hb; clear hb; clear HK; have HK := Lib.hid hk; clear hk)
    | (with_reducible refine load_fr HK.out 1 Try.underlying33 rfl (Pf.infoF HI.out) _ rfl rfl rfl rfl Pf.all ?_)
    | (go_at_call 11; (with_reducible refine (hsq _ _ _ _ _ (HK.out.rowAt 1 rfl) (HK.out.rowAt 0 rfl)).mono ?_); rintro e u ⟨rfl, hb⟩; have hk := HK.out.call hb; clear hb; clear HK; have HK := Lib.hid hk; clear hk)
    | (go_at_call 8; (with_reducible refine (awake_any _).mono ?_); rintro e u ⟨rfl, hb⟩; have hk := HK.out.call hb; clear hb; clear HK; have HK := Lib.hid hk; clear hk))
  go_ret
  exact ⟨rfl, HK.out.bel⟩
set_option maxHeartbeats 4000000 in
theorem ups_10false (p0 : Pf) (A0 : Option Addr) (c0 : Nat) (hp0 : p0.full) (hc0 : p0.hs.length ≤ c0) (a1 : Int) (A2 : Option Addr) (c2 : Nat) (x2 : List Ho) (w : World) (hrow : Row w A0 p0.hs.length p0.hs) (hrow2 : Row w A2 x2.length x2) (hfew : fewP p0 = true) (n2 : decide ((40 : Int) < (x2.length : Int)) = false) (b1 : decide ((1099511627776 : Int) < a1) = false) (b2 : decide (a1 < -1099511627776) = false) (hrr : ∀ w, Row w A0 p0.hs.length p0.hs → Calls Try.prog 10 #[.agg (p0.fd A0 c0).cells.toArray] w fun e w' => e = .returned (.bool true) ∧ Below w.heap.size w w') (e1 : (a1 != 0) = true) (e2 : (p0.e != 0) = false) (d1 : decide ((0 : Int) < (x2.length : Int)) = false) (S : Int) (R : List Ho) (hup : ∀ w, Row w A0 p0.hs.length p0.hs → Row w A2 x2.length x2 → Calls Try.prog 12 #[.agg (p0.fd A0 c0).cells.toArray, .agg (rsc a1 A2 x2.length c2).toArray] w fun x u => ∃ A1 c1, x = .returned (.tuple #[.agg ((zP).fd A1 c1).cells.toArray, .int .i64 4]) ∧ Row u A1 (zP).hs.length (zP).hs ∧ Fresh w.heap.size A1 c1 (zP).hs ∧ Below w.heap.size w u) (hR : p0.hs ++ x2 = R) (hM : R.length ≤ 1000) (hS : IntKind.i64.wrap (p0.e + a1) = S) (hrq : ∀ A c w, Row w A ((p0.setE S).setH R).hs.length ((p0.setE S).setH R).hs → Calls Try.prog 10 #[.agg (((p0.setE S).setH R).fd A c).cells.toArray] w fun e w' => e = .returned (.bool false) ∧ Below w.heap.size w w') :
    Calls Try.prog 4 #[.agg (p0.fd A0 c0).cells.toArray, .int .i64 a1, .slice A2 x2.length c2] w fun e w' => e = .returned (.bool true) ∧ Below w.heap.size w w' := by
  have HL := Lib.hid (show p0.hs.length + x2.length ≤ 2000 by rw [← hR, List.length_append] at hM; omega)
  have HL0 := Lib.hid (show 0 + p0.hs.length ≤ 2000 by have := HL.out; omega)
  have HFEW := Lib.hid hfew
  have HF := Lib.hid hp0
  have HK := Lib.hid (KeepF.start (w := w) (rows := [(A0, p0.hs.length, p0.hs), (A2, x2.length, x2)]) (by simp [hrow, hrow2]))
  have N2 := Lib.hid n2; have B1 := Lib.hid b1; have B2 := Lib.hid b2
  have HZ := Lib.hid zP_full
  have hsz := fun A c w h1 h2 => rsame_any zP zP_full A none c 0 w h1 h2
  clear hrow hrow2 hfew n2 b1 b2 hp0
  have E1X := Lib.hid e1; clear e1
  have E2X := Lib.hid e2; clear e2
  have D1X := Lib.hid d1; clear d1
  have HG := Lib.hid (show (p0.setE S).full from HF.out)
  have HI := Lib.hid (show ((p0.setE S).setH R).full from HF.out)
  have HR := Lib.hid hR; clear hR
  go_enter Try.func4, Try.ntmps4
  go_wp2_with (first
    | (with_reducible refine box_f HK.out rfl _ rfl rfl ?_; intro b1 u hk; clear HK; have HK := Lib.hid hk; clear hk)
    | (with_reducible refine load_fr HK.out 0 Try.underlying33 rfl (Pf.infoF HF.out) _ rfl rfl rfl rfl Pf.all ?_)
    | (with_reducible refine build_f1 HK.out rfl _ rfl HF.out rfl ?_; intro b2 u hk; clear HK; have HK := Lib.hid hk; clear hk)
    | (go_at_call 7; (with_reducible refine (few_f p0 HF.out A0 c0 _ _ HFEW.out _ (HK.out.get 0 rfl)).mono ?_); rintro e u ⟨rfl, hb⟩; have hk := HK.out.call hb; clear hb; clear HK; have HK := Lib.hid hk; clear hk)
    | (with_reducible refine load_fr HK.out 1 Try.underlying33 rfl (Pf.infoF HF.out) _ rfl rfl rfl rfl Pf.all ?_)
    | (with_reducible refine gtr_want N2.out _ _ _ rfl rfl rfl rfl ?_)
    | (with_reducible refine gtr_want B1.out _ _ _ rfl rfl rfl rfl ?_)
    | (with_reducible refine lss_want B2.out _ _ _ rfl rfl rfl rfl ?_)
    | (with_reducible refine build_r2 rfl _ _ rfl rfl rfl ?_)
    | (go_at_call 12; (with_reducible refine (hup _ (HK.out.rowAt 0 rfl) (HK.out.rowAt 1 rfl)).mono ?_); rintro e u ⟨A5, c5, rfl, r1, f1, hb⟩; have hk := HK.out.fresh hb r1 f1; clear hup hb r1 f1; clear HK; have HK := Lib.hid hk; clear hk)
    | (with_reducible refine alloc_f HK.out f_zeroP rfl rfl ?_; intro b7 u hk; clear HK; have HK := Lib.hid hk; clear hk)
    | (with_reducible refine store_fr HK.out 0 (Pf.infoF HZ.out) (Fd.one _) rfl rfl _ _ rfl rfl rfl rfl (Fd.leP zP_full HZ.out) (Fd.setAllP zP_full HZ.out) ?_; intro u hk; simp only [List.set_cons_zero] at hk; clear HK; have HK := Lib.hid hk; clear hk)
    | (with_reducible refine load_fr HK.out 2 Try.underlying33 rfl (Pf.infoF HF.out) _ rfl rfl rfl rfl Pf.all ?_)
    | (go_at_call 10; (with_reducible refine (hrr _ (HK.out.rowAt 1 rfl)).mono ?_); rintro e u ⟨rfl, hb⟩; have hk := HK.out.call hb; clear hb; clear HK; have HK := Lib.hid hk; clear hk)
    | (with_reducible refine neq_want E1X.out _ _ _ rfl rfl rfl rfl ?_)
    | (with_reducible refine neq_want E2X.out _ _ _ rfl rfl rfl rfl ?_)
    | (with_reducible refine gtr_want D1X.out _ _ _ rfl rfl rfl rfl ?_)
    | (with_reducible refine load_f1 HK.out 2 cbI _ rfl rfl rfl rfl Pf.ce ?_)
    | (with_reducible refine load_f1 HK.out 2 cbH _ rfl rfl rfl rfl (Pf.cH HF.out) ?_)
    | (with_reducible refine store_fr HK.out 0 (Pf.infoF HF.out) (Fd.one _) rfl rfl _ _ rfl rfl rfl rfl (Fd.leP zP_full HF.out) (Fd.setAllP zP_full HF.out) ?_; intro u hk; simp only [List.set_cons_zero] at hk; clear HK; have HK := Lib.hid hk; clear hk)
    | (with_reducible refine load_f1 HK.out 0 cbI _ rfl rfl rfl rfl Pf.ce ?_)
    | (with_reducible refine store_f1 HK.out 0 cbI rfl rfl _ _ rfl rfl rfl rfl rfl (Pf.lt2 HF.out) (Pf.toE' S) ?_; intro u hk; simp only [List.set_cons_zero] at hk; clear HK; have HK := Lib.hid hk; clear hk)
    | (with_reducible refine build_p HK.out rfl rfl ?_; intro A8 c8 u hp; have HP := Lib.hid hp; have hk := hp.keep; clear hp; clear HK; have HK := Lib.hid hk; clear hk)
    | (with_reducible refine load_f1 HK.out 3 cbH _ rfl rfl rfl rfl (Pf.cH HF.out) ?_)
    | (with_reducible refine app_p HP.out rfl _ _ rfl rfl rfl (HP.out.keep.rowAt 1 rfl) (List.nil_append _) HL0.out ?_; intro A9 c9 u hp; clear HP; have HP := Lib.hid hp; have hk := hp.keep; clear hp; clear HK; have HK := Lib.hid hk; clear hk)
    | (with_reducible refine app_p HP.out rfl _ _ rfl rfl rfl (HP.out.keep.rowAt 2 rfl) HR.out HL.out ?_; intro A10 c10 u hp; clear HP; have hk := hp.done hM; clear hp; clear HK; have HK := Lib.hid hk; clear hk)
    | (with_reducible refine store_f1 HK.out 0 cbH rfl rfl _ _ rfl rfl rfl rfl rfl (Fd.ltH HG.out) (Pf.toH HG.out A10 c10 R) ?_; intro u hk; simp only [List.set_cons_zero] at hk; clear HK; have HK := Lib.hid hk; clear hk)
    | (with_reducible refine load_fr HK.out 0 Try.underlying33 rfl (Pf.infoF HI.out) _ rfl rfl rfl rfl Pf.all ?_)
    | (go_at_call 10; (with_reducible refine (hrq _ _ _ (HK.out.rowAt 0 rfl)).mono ?_); rintro e u ⟨rfl, hb⟩; have hk := HK.out.call hb; clear hb; clear HK; have HK := Lib.hid hk; clear hk)
    | (with_reducible refine load_fr HK.out 1 Try.underlying33 rfl (Pf.infoF HZ.out) _ rfl rfl rfl rfl Pf.all ?_)
    | (with_reducible refine build_fw f_buildP rfl rfl ?_)
    | (go_at_call 11; (with_reducible refine (hsz _ _ _ (HK.out.rowAt 1 rfl) (Row.nil _ _)).mono ?_); rintro e u ⟨rfl, hb⟩; have hk := HK.out.call hb; clear hb; clear HK; have HK := Lib.hid hk; clear hk)
    | (go_at_call 8; (with_reducible refine (awake_any _).mono ?_); rintro e u ⟨rfl, hb⟩; have hk := HK.out.call hb; clear hb; clear HK; have HK := Lib.hid hk; clear hk))
  go_ret
  exact ⟨rfl, HK.out.bel⟩
set_option maxHeartbeats 4000000 in
theorem ups_ho0 (p0 : Pf) (A0 : Option Addr) (c0 : Nat) (hp0 : p0.full) (hc0 : p0.hs.length ≤ c0) (a1 : Int) (A2 : Option Addr) (c2 : Nat) (x2 : List Ho) (w : World) (hrow : Row w A0 p0.hs.length p0.hs) (hrow2 : Row w A2 x2.length x2) (hfew : fewP p0 = true) (n2 : decide ((40 : Int) < (x2.length : Int)) = false) (b1 : decide ((1099511627776 : Int) < a1) = false) (b2 : decide (a1 < -1099511627776) = false) (hrr : ∀ w, Row w A0 p0.hs.length p0.hs → Calls Try.prog 10 #[.agg (p0.fd A0 c0).cells.toArray] w fun e w' => e = .returned (.bool true) ∧ Below w.heap.size w w') (e1 : (a1 != 0) = false) (d1 : decide ((0 : Int) < (x2.length : Int)) = true) (d2 : decide ((0 : Int) < (p0.hs.length : Int)) = true) (hup : ∀ w, Row w A0 p0.hs.length p0.hs → Row w A2 x2.length x2 → Calls Try.prog 12 #[.agg (p0.fd A0 c0).cells.toArray, .agg (rsc a1 A2 x2.length c2).toArray] w fun x u => ∃ A1 c1, x = .returned (.tuple #[.agg ((zP).fd A1 c1).cells.toArray, .int .i64 1]) ∧ Row u A1 (zP).hs.length (zP).hs ∧ Fresh w.heap.size A1 c1 (zP).hs ∧ Below w.heap.size w u) :
    Calls Try.prog 4 #[.agg (p0.fd A0 c0).cells.toArray, .int .i64 a1, .slice A2 x2.length c2] w fun e w' => e = .returned (.bool true) ∧ Below w.heap.size w w' := by
  have HFEW := Lib.hid hfew
  have HF := Lib.hid hp0
  have HK := Lib.hid (KeepF.start (w := w) (rows := [(A0, p0.hs.length, p0.hs), (A2, x2.length, x2)]) (by simp [hrow, hrow2]))
  have N2 := Lib.hid n2; have B1 := Lib.hid b1; have B2 := Lib.hid b2
  have HZ := Lib.hid zP_full
  have hsz := fun A c w h1 h2 => rsame_any zP zP_full A none c 0 w h1 h2
  clear hrow hrow2 hfew n2 b1 b2 hp0
  have E1X := Lib.hid e1; clear e1
  have D1X := Lib.hid d1; clear d1
  have D2X := Lib.hid d2; clear d2
  go_enter Try.func4, Try.ntmps4
  go_wp2_with (first
    | (with_reducible refine box_f HK.out rfl _ rfl rfl ?_; intro b1 u hk; clear HK; have HK := Lib.hid hk; clear hk)
    | (with_reducible refine load_fr HK.out 0 Try.underlying33 rfl (Pf.infoF HF.out) _ rfl rfl rfl rfl Pf.all ?_)
    | (with_reducible refine build_f1 HK.out rfl _ rfl HF.out rfl ?_; intro b2 u hk; clear HK; have HK := Lib.hid hk; clear hk)
    | (go_at_call 7; (with_reducible refine (few_f p0 HF.out A0 c0 _ _ HFEW.out _ (HK.out.get 0 rfl)).mono ?_); rintro e u ⟨rfl, hb⟩; have hk := HK.out.call hb; clear hb; clear HK; have HK := Lib.hid hk; clear hk)
    | (with_reducible refine load_fr HK.out 1 Try.underlying33 rfl (Pf.infoF HF.out) _ rfl rfl rfl rfl Pf.all ?_)
    | (with_reducible refine gtr_want N2.out _ _ _ rfl rfl rfl rfl ?_)
    | (with_reducible refine gtr_want B1.out _ _ _ rfl rfl rfl rfl ?_)
    | (with_reducible refine lss_want B2.out _ _ _ rfl rfl rfl rfl ?_)
    | (with_reducible refine build_r2 rfl _ _ rfl rfl rfl ?_)
    | (go_at_call 12; (with_reducible refine (hup _ (HK.out.rowAt 0 rfl) (HK.out.rowAt 1 rfl)).mono ?_); rintro e u ⟨A5, c5, rfl, r1, f1, hb⟩; have hk := HK.out.fresh hb r1 f1; clear hup hb r1 f1; clear HK; have HK := Lib.hid hk; clear hk)
    | (with_reducible refine alloc_f HK.out f_zeroP rfl rfl ?_; intro b7 u hk; clear HK; have HK := Lib.hid hk; clear hk)
    | (with_reducible refine store_fr HK.out 0 (Pf.infoF HZ.out) (Fd.one _) rfl rfl _ _ rfl rfl rfl rfl (Fd.leP zP_full HZ.out) (Fd.setAllP zP_full HZ.out) ?_; intro u hk; simp only [List.set_cons_zero] at hk; clear HK; have HK := Lib.hid hk; clear hk)
    | (with_reducible refine load_fr HK.out 2 Try.underlying33 rfl (Pf.infoF HF.out) _ rfl rfl rfl rfl Pf.all ?_)
    | (go_at_call 10; (with_reducible refine (hrr _ (HK.out.rowAt 1 rfl)).mono ?_); rintro e u ⟨rfl, hb⟩; have hk := HK.out.call hb; clear hb; clear HK; have HK := Lib.hid hk; clear hk)
    | (with_reducible refine neq_want E1X.out _ _ _ rfl rfl rfl rfl ?_)
    | (with_reducible refine gtr_want D1X.out _ _ _ rfl rfl rfl rfl ?_)
    | (with_reducible refine gtr_want D2X.out _ _ _ rfl rfl rfl rfl ?_)
    | (with_reducible refine load_f1 HK.out 2 cbI _ rfl rfl rfl rfl Pf.ce ?_)
    | (with_reducible refine load_f1 HK.out 2 cbH _ rfl rfl rfl rfl (Pf.cH HF.out) ?_)
    | (with_reducible refine load_fr HK.out 0 Try.underlying33 rfl (Pf.infoF HZ.out) _ rfl rfl rfl rfl Pf.all ?_)
    | (with_reducible refine build_fw f_buildP rfl rfl ?_)
    | (go_at_call 11; (with_reducible refine (hsz _ _ _ (HK.out.rowAt 0 rfl) (Row.nil _ _)).mono ?_); rintro e u ⟨rfl, hb⟩; have hk := HK.out.call hb; clear hb; clear HK; have HK := Lib.hid hk; clear hk)
    | (go_at_call 8; (with_reducible refine (awake_any _).mono ?_); rintro e u ⟨rfl, hb⟩; have hk := HK.out.call hb; clear hb; clear HK; have HK := Lib.hid hk; clear hk))
  go_ret
  exact ⟨rfl, HK.out.bel⟩
set_option maxHeartbeats 4000000 in
theorem ups_01true (p0 : Pf) (A0 : Option Addr) (c0 : Nat) (hp0 : p0.full) (hc0 : p0.hs.length ≤ c0) (a1 : Int) (A2 : Option Addr) (c2 : Nat) (x2 : List Ho) (w : World) (hrow : Row w A0 p0.hs.length p0.hs) (hrow2 : Row w A2 x2.length x2) (hfew : fewP p0 = true) (n2 : decide ((40 : Int) < (x2.length : Int)) = false) (b1 : decide ((1099511627776 : Int) < a1) = false) (b2 : decide (a1 < -1099511627776) = false) (hrr : ∀ w, Row w A0 p0.hs.length p0.hs → Calls Try.prog 10 #[.agg (p0.fd A0 c0).cells.toArray] w fun e w' => e = .returned (.bool true) ∧ Below w.heap.size w w') (e1 : (a1 != 0) = false) (d1 : decide ((0 : Int) < (x2.length : Int)) = true) (d2 : decide ((0 : Int) < (p0.hs.length : Int)) = false) (S : Int) (R : List Ho) (hup : ∀ w, Row w A0 p0.hs.length p0.hs → Row w A2 x2.length x2 → Calls Try.prog 12 #[.agg (p0.fd A0 c0).cells.toArray, .agg (rsc a1 A2 x2.length c2).toArray] w fun x u => ∃ A1 c1, x = .returned (.tuple #[.agg ((((p0.setE S).setH R)).fd A1 c1).cells.toArray, .int .i64 0]) ∧ Row u A1 (((p0.setE S).setH R)).hs.length (((p0.setE S).setH R)).hs ∧ Fresh w.heap.size A1 c1 (((p0.setE S).setH R)).hs ∧ Below w.heap.size w u) (hR : p0.hs ++ x2 = R) (hM : R.length ≤ 1000) (hS : IntKind.i64.wrap (p0.e + a1) = S) (hrq : ∀ A c w, Row w A ((p0.setE S).setH R).hs.length ((p0.setE S).setH R).hs → Calls Try.prog 10 #[.agg (((p0.setE S).setH R).fd A c).cells.toArray] w fun e w' => e = .returned (.bool true) ∧ Below w.heap.size w w') :
    Calls Try.prog 4 #[.agg (p0.fd A0 c0).cells.toArray, .int .i64 a1, .slice A2 x2.length c2] w fun e w' => e = .returned (.bool true) ∧ Below w.heap.size w w' := by
  have HL := Lib.hid (show p0.hs.length + x2.length ≤ 2000 by rw [← hR, List.length_append] at hM; omega)
  have HL0 := Lib.hid (show 0 + p0.hs.length ≤ 2000 by have := HL.out; omega)
  have HFEW := Lib.hid hfew
  have HF := Lib.hid hp0
  have HK := Lib.hid (KeepF.start (w := w) (rows := [(A0, p0.hs.length, p0.hs), (A2, x2.length, x2)]) (by simp [hrow, hrow2]))
  have N2 := Lib.hid n2; have B1 := Lib.hid b1; have B2 := Lib.hid b2
  have HZ := Lib.hid zP_full
  have hsz := fun A c w h1 h2 => rsame_any zP zP_full A none c 0 w h1 h2
  clear hrow hrow2 hfew n2 b1 b2 hp0
  have E1X := Lib.hid e1; clear e1
  have D1X := Lib.hid d1; clear d1
  have D2X := Lib.hid d2; clear d2
  have HG := Lib.hid (show (p0.setE S).full from HF.out)
  have HI := Lib.hid (show ((p0.setE S).setH R).full from HF.out)
  have HR := Lib.hid hR; clear hR
  have hsq := fun A B c d w k1 k2 => rsame_any ((p0.setE S).setH R) HF.out A B c d w k1 k2
  go_enter Try.func4, Try.ntmps4
  go_wp2_with (first
    | (with_reducible refine box_f HK.out rfl _ rfl rfl ?_; intro b1 u hk; clear HK; have HK := Lib.hid hk; clear hk)
    | (with_reducible refine load_fr HK.out 0 Try.underlying33 rfl (Pf.infoF HF.out) _ rfl rfl rfl rfl Pf.all ?_)
    | (with_reducible refine build_f1 HK.out rfl _ rfl HF.out rfl ?_; intro b2 u hk; clear HK; have HK := Lib.hid hk; clear hk)
    | (go_at_call 7; (with_reducible refine (few_f p0 HF.out A0 c0 _ _ HFEW.out _ (HK.out.get 0 rfl)).mono ?_); rintro e u ⟨rfl, hb⟩; have hk := HK.out.call hb; clear hb; clear HK; have HK := Lib.hid hk; clear hk)
    | (with_reducible refine load_fr HK.out 1 Try.underlying33 rfl (Pf.infoF HF.out) _ rfl rfl rfl rfl Pf.all ?_)
    | (with_reducible refine gtr_want N2.out _ _ _ rfl rfl rfl rfl ?_)
    | (with_reducible refine gtr_want B1.out _ _ _ rfl rfl rfl rfl ?_)
    | (with_reducible refine lss_want B2.out _ _ _ rfl rfl rfl rfl ?_)
    | (with_reducible refine build_r2 rfl _ _ rfl rfl rfl ?_)
    | (go_at_call 12; (with_reducible refine (hup _ (HK.out.rowAt 0 rfl) (HK.out.rowAt 1 rfl)).mono ?_); rintro e u ⟨A5, c5, rfl, r1, f1, hb⟩; have hk := HK.out.fresh hb r1 f1; clear hup hb r1 f1; clear HK; have HK := Lib.hid hk; clear hk)
    | (with_reducible refine alloc_f HK.out f_zeroP rfl rfl ?_; intro b7 u hk; clear HK; have HK := Lib.hid hk; clear hk)
    | (with_reducible refine store_fr HK.out 0 (Pf.infoF HI.out) (Fd.one _) rfl rfl _ _ rfl rfl rfl rfl (Fd.leP zP_full HI.out) (Fd.setAllP zP_full HI.out) ?_; intro u hk; simp only [List.set_cons_zero] at hk; clear HK; have HK := Lib.hid hk; clear hk)
    | (with_reducible refine load_fr HK.out 2 Try.underlying33 rfl (Pf.infoF HF.out) _ rfl rfl rfl rfl Pf.all ?_)
    | (go_at_call 10; (with_reducible refine (hrr _ (HK.out.rowAt 1 rfl)).mono ?_); rintro e u ⟨rfl, hb⟩; have hk := HK.out.call hb; clear hb; clear HK; have HK := Lib.hid hk; clear hk)
    | (with_reducible refine neq_want E1X.out _ _ _ rfl rfl rfl rfl ?_)
    | (with_reducible refine gtr_want D1X.out _ _ _ rfl rfl rfl rfl ?_)
    | (with_reducible refine gtr_want D2X.out _ _ _ rfl rfl rfl rfl ?_)
    | (with_reducible refine load_f1 HK.out 2 cbI _ rfl rfl rfl rfl Pf.ce ?_)
    | (with_reducible refine load_f1 HK.out 2 cbH _ rfl rfl rfl rfl (Pf.cH HF.out) ?_)
    | (with_reducible refine store_fr HK.out 0 (Pf.infoF HF.out) (Fd.one _) rfl rfl _ _ rfl rfl rfl rfl (Fd.leP zP_full HF.out) (Fd.setAllP zP_full HF.out) ?_; intro u hk; simp only [List.set_cons_zero] at hk; clear HK; have HK := Lib.hid hk; clear hk)
    | (with_reducible refine load_f1 HK.out 0 cbI _ rfl rfl rfl rfl Pf.ce ?_)
    | (with_reducible refine store_f1 HK.out 0 cbI rfl rfl _ _ rfl rfl rfl rfl rfl (Pf.lt2 HF.out) (Pf.toE' S) ?_; intro u hk; simp only [List.set_cons_zero] at hk; clear HK; have HK := Lib.hid hk; clear hk)
    | (with_reducible refine build_p HK.out rfl rfl ?_; intro A8 c8 u hp; have HP := Lib.hid hp; have hk := hp.keep; clear hp; clear HK; have HK := Lib.hid hk; clear hk)
    | (with_reducible refine load_f1 HK.out 3 cbH _ rfl rfl rfl rfl (Pf.cH HF.out) ?_)
    | (with_reducible refine app_p HP.out rfl _ _ rfl rfl rfl (HP.out.keep.rowAt 1 rfl) (List.nil_append _) HL0.out ?_; intro A9 c9 u hp; clear HP; have HP := Lib.hid hp; have hk := hp.keep; clear hp; clear HK; have HK := Lib.hid hk; clear hk)
    | (with_reducible refine app_p HP.out rfl _ _ rfl rfl rfl (HP.out.keep.rowAt 2 rfl) HR.out HL.out ?_; intro A10 c10 u hp; clear HP; have hk := hp.done hM; clear hp; clear HK; have HK := Lib.hid hk; clear hk)
    | (with_reducible refine store_f1 HK.out 0 cbH rfl rfl _ _ rfl rfl rfl rfl rfl (Fd.ltH HG.out) (Pf.toH HG.out A10 c10 R) ?_; intro u hk; simp only [List.set_cons_zero] at hk; clear HK; have HK := Lib.hid hk; clear hk)
    | (with_reducible refine load_fr HK.out 0 Try.underlying33 rfl (Pf.infoF HI.out) _ rfl rfl rfl rfl Pf.all ?_)
    | (go_at_call 10; (with_reducible refine (hrq _ _ _ (HK.out.rowAt 0 rfl)).mono ?_); rintro e u ⟨rfl, hb⟩; have hk := HK.out.call hb; clear hb; clear HK; have HK := Lib.hid hk; clear hk)
    | (with_reducible refine load_fr HK.out 1 Try.underlying33 rfl (Pf.infoF HI.out) _ rfl rfl rfl rfl Pf.all ?_)
    | (go_at_call 11; (with_reducible refine (hsq _ _ _ _ _ (HK.out.rowAt 1 rfl) (HK.out.rowAt 0 rfl)).mono ?_); rintro e u ⟨rfl, hb⟩; have hk := HK.out.call hb; clear hb; clear HK; have HK := Lib.hid hk; clear hk)
    | (go_at_call 8; (with_reducible refine (awake_any _).mono ?_); rintro e u ⟨rfl, hb⟩; have hk := HK.out.call hb; clear hb; clear HK; have HK := Lib.hid hk; clear hk))
  go_ret
  exact ⟨rfl, HK.out.bel⟩
set_option maxHeartbeats 4000000 in
theorem ups_01false (p0 : Pf) (A0 : Option Addr) (c0 : Nat) (hp0 : p0.full) (hc0 : p0.hs.length ≤ c0) (a1 : Int) (A2 : Option Addr) (c2 : Nat) (x2 : List Ho) (w : World) (hrow : Row w A0 p0.hs.length p0.hs) (hrow2 : Row w A2 x2.length x2) (hfew : fewP p0 = true) (n2 : decide ((40 : Int) < (x2.length : Int)) = false) (b1 : decide ((1099511627776 : Int) < a1) = false) (b2 : decide (a1 < -1099511627776) = false) (hrr : ∀ w, Row w A0 p0.hs.length p0.hs → Calls Try.prog 10 #[.agg (p0.fd A0 c0).cells.toArray] w fun e w' => e = .returned (.bool true) ∧ Below w.heap.size w w') (e1 : (a1 != 0) = false) (d1 : decide ((0 : Int) < (x2.length : Int)) = true) (d2 : decide ((0 : Int) < (p0.hs.length : Int)) = false) (S : Int) (R : List Ho) (hup : ∀ w, Row w A0 p0.hs.length p0.hs → Row w A2 x2.length x2 → Calls Try.prog 12 #[.agg (p0.fd A0 c0).cells.toArray, .agg (rsc a1 A2 x2.length c2).toArray] w fun x u => ∃ A1 c1, x = .returned (.tuple #[.agg ((zP).fd A1 c1).cells.toArray, .int .i64 4]) ∧ Row u A1 (zP).hs.length (zP).hs ∧ Fresh w.heap.size A1 c1 (zP).hs ∧ Below w.heap.size w u) (hR : p0.hs ++ x2 = R) (hM : R.length ≤ 1000) (hS : IntKind.i64.wrap (p0.e + a1) = S) (hrq : ∀ A c w, Row w A ((p0.setE S).setH R).hs.length ((p0.setE S).setH R).hs → Calls Try.prog 10 #[.agg (((p0.setE S).setH R).fd A c).cells.toArray] w fun e w' => e = .returned (.bool false) ∧ Below w.heap.size w w') :
    Calls Try.prog 4 #[.agg (p0.fd A0 c0).cells.toArray, .int .i64 a1, .slice A2 x2.length c2] w fun e w' => e = .returned (.bool true) ∧ Below w.heap.size w w' := by
  have HL := Lib.hid (show p0.hs.length + x2.length ≤ 2000 by rw [← hR, List.length_append] at hM; omega)
  have HL0 := Lib.hid (show 0 + p0.hs.length ≤ 2000 by have := HL.out; omega)
  have HFEW := Lib.hid hfew
  have HF := Lib.hid hp0
  have HK := Lib.hid (KeepF.start (w := w) (rows := [(A0, p0.hs.length, p0.hs), (A2, x2.length, x2)]) (by simp [hrow, hrow2]))
  have N2 := Lib.hid n2; have B1 := Lib.hid b1; have B2 := Lib.hid b2
  have HZ := Lib.hid zP_full
  have hsz := fun A c w h1 h2 => rsame_any zP zP_full A none c 0 w h1 h2
  clear hrow hrow2 hfew n2 b1 b2 hp0
  have E1X := Lib.hid e1; clear e1
  have D1X := Lib.hid d1; clear d1
  have D2X := Lib.hid d2; clear d2
  have HG := Lib.hid (show (p0.setE S).full from HF.out)
  have HI := Lib.hid (show ((p0.setE S).setH R).full from HF.out)
  have HR := Lib.hid hR; clear hR
  go_enter Try.func4, Try.ntmps4
  go_wp2_with (first
    | (with_reducible refine box_f HK.out rfl _ rfl rfl ?_; intro b1 u hk; clear HK; have HK := Lib.hid hk; clear hk)
    | (with_reducible refine load_fr HK.out 0 Try.underlying33 rfl (Pf.infoF HF.out) _ rfl rfl rfl rfl Pf.all ?_)
    | (with_reducible refine build_f1 HK.out rfl _ rfl HF.out rfl ?_; intro b2 u hk; clear HK; have HK := Lib.hid hk; clear hk)
    | (go_at_call 7; (with_reducible refine (few_f p0 HF.out A0 c0 _ _ HFEW.out _ (HK.out.get 0 rfl)).mono ?_); rintro e u ⟨rfl, hb⟩; have hk := HK.out.call hb; clear hb; clear HK; have HK := Lib.hid hk; clear hk)
    | (with_reducible refine load_fr HK.out 1 Try.underlying33 rfl (Pf.infoF HF.out) _ rfl rfl rfl rfl Pf.all ?_)
    | (with_reducible refine gtr_want N2.out _ _ _ rfl rfl rfl rfl ?_)
    | (with_reducible refine gtr_want B1.out _ _ _ rfl rfl rfl rfl ?_)
    | (with_reducible refine lss_want B2.out _ _ _ rfl rfl rfl rfl ?_)
    | (with_reducible refine build_r2 rfl _ _ rfl rfl rfl ?_)
    | (go_at_call 12; (with_reducible refine (hup _ (HK.out.rowAt 0 rfl) (HK.out.rowAt 1 rfl)).mono ?_); rintro e u ⟨A5, c5, rfl, r1, f1, hb⟩; have hk := HK.out.fresh hb r1 f1; clear hup hb r1 f1; clear HK; have HK := Lib.hid hk; clear hk)
    | (with_reducible refine alloc_f HK.out f_zeroP rfl rfl ?_; intro b7 u hk; clear HK; have HK := Lib.hid hk; clear hk)
    | (with_reducible refine store_fr HK.out 0 (Pf.infoF HZ.out) (Fd.one _) rfl rfl _ _ rfl rfl rfl rfl (Fd.leP zP_full HZ.out) (Fd.setAllP zP_full HZ.out) ?_; intro u hk; simp only [List.set_cons_zero] at hk; clear HK; have HK := Lib.hid hk; clear hk)
    | (with_reducible refine load_fr HK.out 2 Try.underlying33 rfl (Pf.infoF HF.out) _ rfl rfl rfl rfl Pf.all ?_)
    | (go_at_call 10; (with_reducible refine (hrr _ (HK.out.rowAt 1 rfl)).mono ?_); rintro e u ⟨rfl, hb⟩; have hk := HK.out.call hb; clear hb; clear HK; have HK := Lib.hid hk; clear hk)
    | (with_reducible refine neq_want E1X.out _ _ _ rfl rfl rfl rfl ?_)
    | (with_reducible refine gtr_want D1X.out _ _ _ rfl rfl rfl rfl ?_)
    | (with_reducible refine gtr_want D2X.out _ _ _ rfl rfl rfl rfl ?_)
    | (with_reducible refine load_f1 HK.out 2 cbI _ rfl rfl rfl rfl Pf.ce ?_)
    | (with_reducible refine load_f1 HK.out 2 cbH _ rfl rfl rfl rfl (Pf.cH HF.out) ?_)
    | (with_reducible refine store_fr HK.out 0 (Pf.infoF HF.out) (Fd.one _) rfl rfl _ _ rfl rfl rfl rfl (Fd.leP zP_full HF.out) (Fd.setAllP zP_full HF.out) ?_; intro u hk; simp only [List.set_cons_zero] at hk; clear HK; have HK := Lib.hid hk; clear hk)
    | (with_reducible refine load_f1 HK.out 0 cbI _ rfl rfl rfl rfl Pf.ce ?_)
    | (with_reducible refine store_f1 HK.out 0 cbI rfl rfl _ _ rfl rfl rfl rfl rfl (Pf.lt2 HF.out) (Pf.toE' S) ?_; intro u hk; simp only [List.set_cons_zero] at hk; clear HK; have HK := Lib.hid hk; clear hk)
    | (with_reducible refine build_p HK.out rfl rfl ?_; intro A8 c8 u hp; have HP := Lib.hid hp; have hk := hp.keep; clear hp; clear HK; have HK := Lib.hid hk; clear hk)
    | (with_reducible refine load_f1 HK.out 3 cbH _ rfl rfl rfl rfl (Pf.cH HF.out) ?_)
    | (with_reducible refine app_p HP.out rfl _ _ rfl rfl rfl (HP.out.keep.rowAt 1 rfl) (List.nil_append _) HL0.out ?_; intro A9 c9 u hp; clear HP; have HP := Lib.hid hp; have hk := hp.keep; clear hp; clear HK; have HK := Lib.hid hk; clear hk)
    | (with_reducible refine app_p HP.out rfl _ _ rfl rfl rfl (HP.out.keep.rowAt 2 rfl) HR.out HL.out ?_; intro A10 c10 u hp; clear HP; have hk := hp.done hM; clear hp; clear HK; have HK := Lib.hid hk; clear hk)
    | (with_reducible refine store_f1 HK.out 0 cbH rfl rfl _ _ rfl rfl rfl rfl rfl (Fd.ltH HG.out) (Pf.toH HG.out A10 c10 R) ?_; intro u hk; simp only [List.set_cons_zero] at hk; clear HK; have HK := Lib.hid hk; clear hk)
    | (with_reducible refine load_fr HK.out 0 Try.underlying33 rfl (Pf.infoF HI.out) _ rfl rfl rfl rfl Pf.all ?_)
    | (go_at_call 10; (with_reducible refine (hrq _ _ _ (HK.out.rowAt 0 rfl)).mono ?_); rintro e u ⟨rfl, hb⟩; have hk := HK.out.call hb; clear hb; clear HK; have HK := Lib.hid hk; clear hk)
    | (with_reducible refine load_fr HK.out 1 Try.underlying33 rfl (Pf.infoF HZ.out) _ rfl rfl rfl rfl Pf.all ?_)
    | (with_reducible refine build_fw f_buildP rfl rfl ?_)
    | (go_at_call 11; (with_reducible refine (hsz _ _ _ (HK.out.rowAt 1 rfl) (Row.nil _ _)).mono ?_); rintro e u ⟨rfl, hb⟩; have hk := HK.out.call hb; clear hb; clear HK; have HK := Lib.hid hk; clear hk)
    | (go_at_call 8; (with_reducible refine (awake_any _).mono ?_); rintro e u ⟨rfl, hb⟩; have hk := HK.out.call hb; clear hb; clear HK; have HK := Lib.hid hk; clear hk))
  go_ret
  exact ⟨rfl, HK.out.bel⟩
set_option maxHeartbeats 4000000 in
theorem ups_00true (p0 : Pf) (A0 : Option Addr) (c0 : Nat) (hp0 : p0.full) (hc0 : p0.hs.length ≤ c0) (a1 : Int) (A2 : Option Addr) (c2 : Nat) (x2 : List Ho) (w : World) (hrow : Row w A0 p0.hs.length p0.hs) (hrow2 : Row w A2 x2.length x2) (hfew : fewP p0 = true) (n2 : decide ((40 : Int) < (x2.length : Int)) = false) (b1 : decide ((1099511627776 : Int) < a1) = false) (b2 : decide (a1 < -1099511627776) = false) (hrr : ∀ w, Row w A0 p0.hs.length p0.hs → Calls Try.prog 10 #[.agg (p0.fd A0 c0).cells.toArray] w fun e w' => e = .returned (.bool true) ∧ Below w.heap.size w w') (e1 : (a1 != 0) = false) (d1 : decide ((0 : Int) < (x2.length : Int)) = false) (S : Int) (R : List Ho) (hup : ∀ w, Row w A0 p0.hs.length p0.hs → Row w A2 x2.length x2 → Calls Try.prog 12 #[.agg (p0.fd A0 c0).cells.toArray, .agg (rsc a1 A2 x2.length c2).toArray] w fun x u => ∃ A1 c1, x = .returned (.tuple #[.agg ((((p0.setE S).setH R)).fd A1 c1).cells.toArray, .int .i64 0]) ∧ Row u A1 (((p0.setE S).setH R)).hs.length (((p0.setE S).setH R)).hs ∧ Fresh w.heap.size A1 c1 (((p0.setE S).setH R)).hs ∧ Below w.heap.size w u) (hR : p0.hs ++ x2 = R) (hM : R.length ≤ 1000) (hS : IntKind.i64.wrap (p0.e + a1) = S) (hrq : ∀ A c w, Row w A ((p0.setE S).setH R).hs.length ((p0.setE S).setH R).hs → Calls Try.prog 10 #[.agg (((p0.setE S).setH R).fd A c).cells.toArray] w fun e w' => e = .returned (.bool true) ∧ Below w.heap.size w w') :
    Calls Try.prog 4 #[.agg (p0.fd A0 c0).cells.toArray, .int .i64 a1, .slice A2 x2.length c2] w fun e w' => e = .returned (.bool true) ∧ Below w.heap.size w w' := by
  have HL := Lib.hid (show p0.hs.length + x2.length ≤ 2000 by rw [← hR, List.length_append] at hM; omega)
  have HL0 := Lib.hid (show 0 + p0.hs.length ≤ 2000 by have := HL.out; omega)
  have HFEW := Lib.hid hfew
  have HF := Lib.hid hp0
  have HK := Lib.hid (KeepF.start (w := w) (rows := [(A0, p0.hs.length, p0.hs), (A2, x2.length, x2)]) (by simp [hrow, hrow2]))
  have N2 := Lib.hid n2; have B1 := Lib.hid b1; have B2 := Lib.hid b2
  have HZ := Lib.hid zP_full
  have hsz := fun A c w h1 h2 => rsame_any zP zP_full A none c 0 w h1 h2
  clear hrow hrow2 hfew n2 b1 b2 hp0
  have E1X := Lib.hid e1; clear e1
  have D1X := Lib.hid d1; clear d1
  have HG := Lib.hid (show (p0.setE S).full from HF.out)
  have HI := Lib.hid (show ((p0.setE S).setH R).full from HF.out)
  have HR := Lib.hid hR; clear hR
  have hsq := fun A B c d w k1 k2 => rsame_any ((p0.setE S).setH R) HF.out A B c d w k1 k2
  go_enter Try.func4, Try.ntmps4
  go_wp2_with (first
    | (with_reducible refine box_f HK.out rfl _ rfl rfl ?_; intro b1 u hk; clear HK; have HK := Lib.hid hk; clear hk)
    | (with_reducible refine load_fr HK.out 0 Try.underlying33 rfl (Pf.infoF HF.out) _ rfl rfl rfl rfl Pf.all ?_)
    | (with_reducible refine build_f1 HK.out rfl _ rfl HF.out rfl ?_; intro b2 u hk; clear HK; have HK := Lib.hid hk; clear hk)
    | (go_at_call 7; (with_reducible refine (few_f p0 HF.out A0 c0 _ _ HFEW.out _ (HK.out.get 0 rfl)).mono ?_); rintro e u ⟨rfl, hb⟩; have hk := HK.out.call hb; clear hb; clear HK; have HK := Lib.hid hk; clear hk)
    | (with_reducible refine load_fr HK.out 1 Try.underlying33 rfl (Pf.infoF HF.out) _ rfl rfl rfl rfl Pf.all ?_)
    | (with_reducible refine gtr_want N2.out _ _ _ rfl rfl rfl rfl ?_)
    | (with_reducible refine gtr_want B1.out _ _ _ rfl rfl rfl rfl ?_)
    | (with_reducible refine lss_want B2.out _ _ _ rfl rfl rfl rfl ?_)
    | (with_reducible refine build_r2 rfl _ _ rfl rfl rfl ?_)
    | (go_at_call 12; (with_reducible refine (hup _ (HK.out.rowAt 0 rfl) (HK.out.rowAt 1 rfl)).mono ?_); rintro e u ⟨A5, c5, rfl, r1, f1, hb⟩; have hk := HK.out.fresh hb r1 f1; clear hup hb r1 f1; clear HK; have HK := Lib.hid hk; clear hk)
    | (with_reducible refine alloc_f HK.out f_zeroP rfl rfl ?_; intro b7 u hk; clear HK; have HK := Lib.hid hk; clear hk)
    | (with_reducible refine store_fr HK.out 0 (Pf.infoF HI.out) (Fd.one _) rfl rfl _ _ rfl rfl rfl rfl (Fd.leP zP_full HI.out) (Fd.setAllP zP_full HI.out) ?_; intro u hk; simp only [List.set_cons_zero] at hk; clear HK; have HK := Lib.hid hk; clear hk)
    | (with_reducible refine load_fr HK.out 2 Try.underlying33 rfl (Pf.infoF HF.out) _ rfl rfl rfl rfl Pf.all ?_)
    | (go_at_call 10; (with_reducible refine (hrr _ (HK.out.rowAt 1 rfl)).mono ?_); rintro e u ⟨rfl, hb⟩; have hk := HK.out.call hb; clear hb; clear HK; have HK := Lib.hid hk; clear hk)
    | (with_reducible refine neq_want E1X.out _ _ _ rfl rfl rfl rfl ?_)
    | (with_reducible refine gtr_want D1X.out _ _ _ rfl rfl rfl rfl ?_)
    | (with_reducible refine load_f1 HK.out 2 cbI _ rfl rfl rfl rfl Pf.ce ?_)
    | (with_reducible refine load_f1 HK.out 2 cbH _ rfl rfl rfl rfl (Pf.cH HF.out) ?_)
    | (with_reducible refine store_fr HK.out 0 (Pf.infoF HF.out) (Fd.one _) rfl rfl _ _ rfl rfl rfl rfl (Fd.leP zP_full HF.out) (Fd.setAllP zP_full HF.out) ?_; intro u hk; simp only [List.set_cons_zero] at hk; clear HK; have HK := Lib.hid hk; clear hk)
    | (with_reducible refine load_f1 HK.out 0 cbI _ rfl rfl rfl rfl Pf.ce ?_)
    | (with_reducible refine store_f1 HK.out 0 cbI rfl rfl _ _ rfl rfl rfl rfl rfl (Pf.lt2 HF.out) (Pf.toE' S) ?_; intro u hk; simp only [List.set_cons_zero] at hk; clear HK; have HK := Lib.hid hk; clear hk)
    | (with_reducible refine build_p HK.out rfl rfl ?_; intro A8 c8 u hp; have HP := Lib.hid hp; have hk := hp.keep; clear hp; clear HK; have HK := Lib.hid hk; clear hk)
    | (with_reducible refine load_f1 HK.out 3 cbH _ rfl rfl rfl rfl (Pf.cH HF.out) ?_)
    | (with_reducible refine app_p HP.out rfl _ _ rfl rfl rfl (HP.out.keep.rowAt 1 rfl) (List.nil_append _) HL0.out ?_; intro A9 c9 u hp; clear HP; have HP := Lib.hid hp; have hk := hp.keep; clear hp; clear HK; have HK := Lib.hid hk; clear hk)
    | (with_reducible refine app_p HP.out rfl _ _ rfl rfl rfl (HP.out.keep.rowAt 2 rfl) HR.out HL.out ?_; intro A10 c10 u hp; clear HP; have hk := hp.done hM; clear hp; clear HK; have HK := Lib.hid hk; clear hk)
    | (with_reducible refine store_f1 HK.out 0 cbH rfl rfl _ _ rfl rfl rfl rfl rfl (Fd.ltH HG.out) (Pf.toH HG.out A10 c10 R) ?_; intro u hk; simp only [List.set_cons_zero] at hk; clear HK; have HK := Lib.hid hk; clear hk)
    | (with_reducible refine load_fr HK.out 0 Try.underlying33 rfl (Pf.infoF HI.out) _ rfl rfl rfl rfl Pf.all ?_)
    | (go_at_call 10; (with_reducible refine (hrq _ _ _ (HK.out.rowAt 0 rfl)).mono ?_); rintro e u ⟨rfl, hb⟩; have hk := HK.out.call hb; clear hb; clear HK; have HK := Lib.hid hk; clear hk)
    | (with_reducible refine load_fr HK.out 1 Try.underlying33 rfl (Pf.infoF HI.out) _ rfl rfl rfl rfl Pf.all ?_)
    | (go_at_call 11; (with_reducible refine (hsq _ _ _ _ _ (HK.out.rowAt 1 rfl) (HK.out.rowAt 0 rfl)).mono ?_); rintro e u ⟨rfl, hb⟩; have hk := HK.out.call hb; clear hb; clear HK; have HK := Lib.hid hk; clear hk)
    | (go_at_call 8; (with_reducible refine (awake_any _).mono ?_); rintro e u ⟨rfl, hb⟩; have hk := HK.out.call hb; clear hb; clear HK; have HK := Lib.hid hk; clear hk))
  go_ret
  exact ⟨rfl, HK.out.bel⟩
set_option maxHeartbeats 4000000 in
theorem ups_00false (p0 : Pf) (A0 : Option Addr) (c0 : Nat) (hp0 : p0.full) (hc0 : p0.hs.length ≤ c0) (a1 : Int) (A2 : Option Addr) (c2 : Nat) (x2 : List Ho) (w : World) (hrow : Row w A0 p0.hs.length p0.hs) (hrow2 : Row w A2 x2.length x2) (hfew : fewP p0 = true) (n2 : decide ((40 : Int) < (x2.length : Int)) = false) (b1 : decide ((1099511627776 : Int) < a1) = false) (b2 : decide (a1 < -1099511627776) = false) (hrr : ∀ w, Row w A0 p0.hs.length p0.hs → Calls Try.prog 10 #[.agg (p0.fd A0 c0).cells.toArray] w fun e w' => e = .returned (.bool true) ∧ Below w.heap.size w w') (e1 : (a1 != 0) = false) (d1 : decide ((0 : Int) < (x2.length : Int)) = false) (S : Int) (R : List Ho) (hup : ∀ w, Row w A0 p0.hs.length p0.hs → Row w A2 x2.length x2 → Calls Try.prog 12 #[.agg (p0.fd A0 c0).cells.toArray, .agg (rsc a1 A2 x2.length c2).toArray] w fun x u => ∃ A1 c1, x = .returned (.tuple #[.agg ((zP).fd A1 c1).cells.toArray, .int .i64 4]) ∧ Row u A1 (zP).hs.length (zP).hs ∧ Fresh w.heap.size A1 c1 (zP).hs ∧ Below w.heap.size w u) (hR : p0.hs ++ x2 = R) (hM : R.length ≤ 1000) (hS : IntKind.i64.wrap (p0.e + a1) = S) (hrq : ∀ A c w, Row w A ((p0.setE S).setH R).hs.length ((p0.setE S).setH R).hs → Calls Try.prog 10 #[.agg (((p0.setE S).setH R).fd A c).cells.toArray] w fun e w' => e = .returned (.bool false) ∧ Below w.heap.size w w') :
    Calls Try.prog 4 #[.agg (p0.fd A0 c0).cells.toArray, .int .i64 a1, .slice A2 x2.length c2] w fun e w' => e = .returned (.bool true) ∧ Below w.heap.size w w' := by
  have HL := Lib.hid (show p0.hs.length + x2.length ≤ 2000 by rw [← hR, List.length_append] at hM; omega)
  have HL0 := Lib.hid (show 0 + p0.hs.length ≤ 2000 by have := HL.out; omega)
  have HFEW := Lib.hid hfew
  have HF := Lib.hid hp0
  have HK := Lib.hid (KeepF.start (w := w) (rows := [(A0, p0.hs.length, p0.hs), (A2, x2.length, x2)]) (by simp [hrow, hrow2]))
  have N2 := Lib.hid n2; have B1 := Lib.hid b1; have B2 := Lib.hid b2
  have HZ := Lib.hid zP_full
  have hsz := fun A c w h1 h2 => rsame_any zP zP_full A none c 0 w h1 h2
  clear hrow hrow2 hfew n2 b1 b2 hp0
  have E1X := Lib.hid e1; clear e1
  have D1X := Lib.hid d1; clear d1
  have HG := Lib.hid (show (p0.setE S).full from HF.out)
  have HI := Lib.hid (show ((p0.setE S).setH R).full from HF.out)
  have HR := Lib.hid hR; clear hR
  go_enter Try.func4, Try.ntmps4
  go_wp2_with (first
    | (with_reducible refine box_f HK.out rfl _ rfl rfl ?_; intro b1 u hk; clear HK; have HK := Lib.hid hk; clear hk)
    | (with_reducible refine load_fr HK.out 0 Try.underlying33 rfl (Pf.infoF HF.out) _ rfl rfl rfl rfl Pf.all ?_)
    | (with_reducible refine build_f1 HK.out rfl _ rfl HF.out rfl ?_; intro b2 u hk; clear HK; have HK := Lib.hid hk; clear hk)
    | (go_at_call 7; (with_reducible refine (few_f p0 HF.out A0 c0 _ _ HFEW.out _ (HK.out.get 0 rfl)).mono ?_); rintro e u ⟨rfl, hb⟩; have hk := HK.out.call hb; clear hb; clear HK; have HK := Lib.hid hk; clear hk)
    | (with_reducible refine load_fr HK.out 1 Try.underlying33 rfl (Pf.infoF HF.out) _ rfl rfl rfl rfl Pf.all ?_)
    | (with_reducible refine gtr_want N2.out _ _ _ rfl rfl rfl rfl ?_)
    | (with_reducible refine gtr_want B1.out _ _ _ rfl rfl rfl rfl ?_)
    | (with_reducible refine lss_want B2.out _ _ _ rfl rfl rfl rfl ?_)
    | (with_reducible refine build_r2 rfl _ _ rfl rfl rfl ?_)
    | (go_at_call 12; (with_reducible refine (hup _ (HK.out.rowAt 0 rfl) (HK.out.rowAt 1 rfl)).mono ?_); rintro e u ⟨A5, c5, rfl, r1, f1, hb⟩; have hk := HK.out.fresh hb r1 f1; clear hup hb r1 f1; clear HK; have HK := Lib.hid hk; clear hk)
    | (with_reducible refine alloc_f HK.out f_zeroP rfl rfl ?_; intro b7 u hk; clear HK; have HK := Lib.hid hk; clear hk)
    | (with_reducible refine store_fr HK.out 0 (Pf.infoF HZ.out) (Fd.one _) rfl rfl _ _ rfl rfl rfl rfl (Fd.leP zP_full HZ.out) (Fd.setAllP zP_full HZ.out) ?_; intro u hk; simp only [List.set_cons_zero] at hk; clear HK; have HK := Lib.hid hk; clear hk)
    | (with_reducible refine load_fr HK.out 2 Try.underlying33 rfl (Pf.infoF HF.out) _ rfl rfl rfl rfl Pf.all ?_)
    | (go_at_call 10; (with_reducible refine (hrr _ (HK.out.rowAt 1 rfl)).mono ?_); rintro e u ⟨rfl, hb⟩; have hk := HK.out.call hb; clear hb; clear HK; have HK := Lib.hid hk; clear hk)
    | (with_reducible refine neq_want E1X.out _ _ _ rfl rfl rfl rfl ?_)
    | (with_reducible refine gtr_want D1X.out _ _ _ rfl rfl rfl rfl ?_)
    | (with_reducible refine load_f1 HK.out 2 cbI _ rfl rfl rfl rfl Pf.ce ?_)
    | (with_reducible refine load_f1 HK.out 2 cbH _ rfl rfl rfl rfl (Pf.cH HF.out) ?_)
    | (with_reducible refine store_fr HK.out 0 (Pf.infoF HF.out) (Fd.one _) rfl rfl _ _ rfl rfl rfl rfl (Fd.leP zP_full HF.out) (Fd.setAllP zP_full HF.out) ?_; intro u hk; simp only [List.set_cons_zero] at hk; clear HK; have HK := Lib.hid hk; clear hk)
    | (with_reducible refine load_f1 HK.out 0 cbI _ rfl rfl rfl rfl Pf.ce ?_)
    | (with_reducible refine store_f1 HK.out 0 cbI rfl rfl _ _ rfl rfl rfl rfl rfl (Pf.lt2 HF.out) (Pf.toE' S) ?_; intro u hk; simp only [List.set_cons_zero] at hk; clear HK; have HK := Lib.hid hk; clear hk)
    | (with_reducible refine build_p HK.out rfl rfl ?_; intro A8 c8 u hp; have HP := Lib.hid hp; have hk := hp.keep; clear hp; clear HK; have HK := Lib.hid hk; clear hk)
    | (with_reducible refine load_f1 HK.out 3 cbH _ rfl rfl rfl rfl (Pf.cH HF.out) ?_)
    | (with_reducible refine app_p HP.out rfl _ _ rfl rfl rfl (HP.out.keep.rowAt 1 rfl) (List.nil_append _) HL0.out ?_; intro A9 c9 u hp; clear HP; have HP := Lib.hid hp; have hk := hp.keep; clear hp; clear HK; have HK := Lib.hid hk; clear hk)
    | (with_reducible refine app_p HP.out rfl _ _ rfl rfl rfl (HP.out.keep.rowAt 2 rfl) HR.out HL.out ?_; intro A10 c10 u hp; clear HP; have hk := hp.done hM; clear hp; clear HK; have HK := Lib.hid hk; clear hk)
    | (with_reducible refine store_f1 HK.out 0 cbH rfl rfl _ _ rfl rfl rfl rfl rfl (Fd.ltH HG.out) (Pf.toH HG.out A10 c10 R) ?_; intro u hk; simp only [List.set_cons_zero] at hk; clear HK; have HK := Lib.hid hk; clear hk)
    | (with_reducible refine load_fr HK.out 0 Try.underlying33 rfl (Pf.infoF HI.out) _ rfl rfl rfl rfl Pf.all ?_)
    | (go_at_call 10; (with_reducible refine (hrq _ _ _ (HK.out.rowAt 0 rfl)).mono ?_); rintro e u ⟨rfl, hb⟩; have hk := HK.out.call hb; clear hb; clear HK; have HK := Lib.hid hk; clear hk)
    | (with_reducible refine load_fr HK.out 1 Try.underlying33 rfl (Pf.infoF HZ.out) _ rfl rfl rfl rfl Pf.all ?_)
    | (with_reducible refine build_fw f_buildP rfl rfl ?_)
    | (go_at_call 11; (with_reducible refine (hsz _ _ _ (HK.out.rowAt 1 rfl) (Row.nil _ _)).mono ?_); rintro e u ⟨rfl, hb⟩; have hk := HK.out.call hb; clear hb; clear HK; have HK := Lib.hid hk; clear hk)
    | (go_at_call 8; (with_reducible refine (awake_any _).mono ?_); rintro e u ⟨rfl, hb⟩; have hk := HK.out.call hb; clear hb; clear HK; have HK := Lib.hid hk; clear hk))
  go_ret
  exact ⟨rfl, HK.out.bel⟩
end Go.Proofs.Ytofngihdnjgmeaa
