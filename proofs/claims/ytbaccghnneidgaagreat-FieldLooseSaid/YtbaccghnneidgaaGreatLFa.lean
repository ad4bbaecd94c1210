/- awake. -/
import Derived.Test.YtbaccghnneidgaaGreatLFow
namespace Go.Proofs.YtbaccghnneidgaaGreat
set_option maxRecDepth 100000
open Go.ChangeShapes Go.WideShapes Go.ChangeAt Go.RowKit

/-! ### awake. -/
def af1 : Pf := ⟨⟨#[97]⟩, 1, 0, newC 5 0 10, zL, []⟩
def af2 : Pf := af1.setH [⟨0, 1, 3, 9, 1⟩]
def af3 : Pf := af2.setC (decA (newC 5 0 10) 0 2)
def af4 : Pf := (af1.setH [⟨0, 1, 3, 9, 2⟩]).setC (decA (decA (newC 5 0 10) 0 2) 0 3)
theorem af_1 : ctP ⟨#[97]⟩ 5 0 10 = af1 ∧ ctPE ⟨#[97]⟩ 5 0 10 = 0 := by
  have e1 : nameB ⟨#[97]⟩ = true := by decide +kernel
  have e2 : newB 5 0 10 = true := by decide +kernel
  have e : ctPE ⟨#[97]⟩ 5 0 10 = 0 := by simp [ctPE, e1, newE, e2]
  exact ⟨by rw [ctP, e, toldP_0]; simp [newA, e2, af1], e⟩
theorem af1_k : af1.k = 1 := rfl
theorem af1_l : looseP af1 0 = 5 := by decide +kernel
theorem af_2a : resE [] 0 3 9 = 0 ∧ resN [] 0 3 9 = 1 ∧ resL [] 0 3 9 = [⟨0, 1, 3, 9, 1⟩] := by
  refine ⟨by decide +kernel, by decide +kernel, by rw [resL, if_pos (by decide +kernel)]; rfl⟩
theorem af_2 : resP af1 0 3 9 = af2 ∧ resPN af1 0 3 9 = 1 ∧ resPE af1 0 3 9 = 0 := by
  obtain ⟨h1, h2, h3⟩ := af_2a
  have hl := af1_l
  have e : resPE af1 0 3 9 = 0 := by rw [resPE, if_pos af1_k, hl, if_neg (by decide)]; exact h1
  exact ⟨by rw [resP, e, toldP_0, resPH, hl, if_neg (by decide), show af1.hs = [] from rfl, h3]; rfl, by rw [resPN, if_pos af1_k, hl, if_neg (by decide)]; exact h2, e⟩
theorem af2_l : looseP af2 0 = 2 := by decide +kernel
theorem af_3 : addPE af2 0 (-3) = 8 ∧ addP af2 0 (-3) = zP := by
  have e : addPE af2 0 (-3) = 8 := by rw [addPE, if_pos (show af2.k = 1 from rfl), if_neg (by decide), af2_l, if_pos (by decide)]
  exact ⟨e, by rw [addP, e, toldP_n _ (by decide)]⟩
theorem af_dec : decE (newC 5 0 10) 0 2 = 0 ∧ decE (decA (newC 5 0 10) 0 2) 0 3 = 0 := by decide +kernel
theorem af_4 : addPE af2 0 (-2) = 0 ∧ addP af2 0 (-2) = af3 := by
  have e : addPE af2 0 (-2) = 0 := by rw [addPE, if_pos (show af2.k = 1 from rfl), if_neg (by decide), af2_l, if_neg (by decide)]; exact af_dec.1
  exact ⟨e, by rw [addP, e, toldP_0, addPC, if_neg (by decide), af2_l, if_neg (by decide)]; rfl⟩
theorem af_5a : endE [⟨0, 1, 3, 9, 1⟩] 0 1 2 = 0 ∧ endA [⟨0, 1, 3, 9, 1⟩] 0 1 2 = 3 ∧ endL [⟨0, 1, 3, 9, 1⟩] 0 1 2 = [⟨0, 1, 3, 9, 2⟩] := by
  refine ⟨by decide +kernel, by decide +kernel, by rw [endL, if_pos (by decide +kernel)]; rfl⟩
theorem af_5 : endPE af3 0 1 2 = 0 ∧ endP af3 0 1 2 = af4 := by
  obtain ⟨h1, h2, h3⟩ := af_5a
  have e : endPE af3 0 1 2 = 0 := by rw [endPE, if_pos (show af3.k = 1 from rfl), show af3.hs = [⟨0, 1, 3, 9, 1⟩] from rfl, h1, if_pos rfl, if_pos rfl, h2]; exact af_dec.2
  exact ⟨e, by rw [endP, e, toldP_0, endPC, show af3.hs = [⟨0, 1, 3, 9, 1⟩] from rfl, h1, if_pos rfl, if_pos rfl, h2, h3]; rfl⟩
theorem af_6 : sumN (valL af4.C) = 0 ∧ sumE (valL af4.C) = 0 := by decide +kernel
theorem af_7 : rightC af4.C = true := by decide +kernel
theorem af_8 (A : Option Addr) (c : Nat) : rightF (af4.fd A c) [⟨0, 1, 3, 9, 2⟩] = true := by
  have e1 : nameB ⟨#[97]⟩ = true := by decide +kernel
  have e2 : rightsL [⟨0, 1, 3, 9, 2⟩] = true := by decide +kernel
  have e3 : rcB (af4.fd A c) [⟨0, 1, 3, 9, 2⟩] = true := by
    rw [rcB, show (af4.fd A c).C = af4.C from rfl, show (af4.fd A c).L = zL from rfl, show (af4.fd A c).k = 1 from rfl, e2, af_7]
    decide
  rw [rightF, e3, Bool.true_or, show (af4.fd A c).nm = ⟨#[97]⟩ from rfl, show (af4.fd A c).e = 0 from rfl, e1]
  decide
theorem af4_ok (A : Option Addr) (c : Nat) : (af4.fd A c).ok := by
  have h : (seg af4.C 19 16).all (fun z => decide (-9223372036854775808 ≤ z) && decide (z ≤ 9223372036854775807)) = true := by decide +kernel
  intro z hz
  have := List.all_eq_true.1 h z hz
  simp only [Bool.and_eq_true, decide_eq_true_eq] at this
  exact this
theorem af1_full : af1.full := newC_length 5 0 10
theorem af2_full : af2.full := newC_length 5 0 10
theorem af3_full : af3.full := decA_length (newC_length 5 0 10) 0 2
theorem af4_full : af4.full := decA_length af3_full 0 3
theorem afc_1 (w : World) : Calls Tryz.prog 20 #[.string ⟨#[97]⟩, .int .i64 5, .int .i64 0, .int .i64 10] w fun e w' => e = .returned (.tuple #[.agg (af1.fd none 0).cells.toArray, .int .i64 0]) ∧ Below w.heap.size w w' := by
  have := fcounter_any ⟨#[97]⟩ (by decide) 5 0 10 w
  rwa [af_1.1, af_1.2] at this
theorem afc_2 (A : Option Addr) (c : Nat) (w : World) (hd : Row w A 0 []) : Calls Tryz.prog 32 #[.agg (af1.fd A c).cells.toArray, .int .i64 0, .int .i64 3, .int .i64 9] w fun e w' => ∃ A1 c1, e = .returned (.tuple #[.agg (af2.fd A1 c1).cells.toArray, .int .i64 1, .int .i64 0]) ∧ Got w A 0 w' A1 c1 [⟨0, 1, 3, 9, 1⟩] ∧ Below w.heap.size w w' := by
  have := freserve_any af1 af1_full A c 0 3 9 w hd
  rwa [af_2.1, af_2.2.1, af_2.2.2] at this
theorem afc_3 (A : Option Addr) (c : Nat) (w : World) (hd : Row w A 1 [⟨0, 1, 3, 9, 1⟩]) : Calls Tryz.prog 24 #[.agg (af2.fd A c).cells.toArray, .int .i64 0, .int .i64 (-3)] w fun e w' => ∃ A1 c1, e = .returned (.tuple #[.agg (zP.fd A1 c1).cells.toArray, .int .i64 8]) ∧ Got w A 1 w' A1 c1 [] ∧ Below w.heap.size w w' := by
  have := fadd_any af2 af2_full A c 0 (-3) w hd
  rwa [af_3.1, af_3.2] at this
theorem afc_4 (A : Option Addr) (c : Nat) (w : World) (hd : Row w A 1 [⟨0, 1, 3, 9, 1⟩]) : Calls Tryz.prog 24 #[.agg (af2.fd A c).cells.toArray, .int .i64 0, .int .i64 (-2)] w fun e w' => ∃ A1 c1, e = .returned (.tuple #[.agg (af3.fd A1 c1).cells.toArray, .int .i64 0]) ∧ Got w A 1 w' A1 c1 [⟨0, 1, 3, 9, 1⟩] ∧ Below w.heap.size w w' := by
  have := fadd_any af2 af2_full A c 0 (-2) w hd
  rwa [af_4.1, af_4.2] at this
theorem afc_5 (A : Option Addr) (c : Nat) (w : World) (hd : Row w A 1 [⟨0, 1, 3, 9, 1⟩]) : Calls Tryz.prog 34 #[.agg (af3.fd A c).cells.toArray, .int .i64 0, .int .i64 1, .int .i64 2] w fun e w' => ∃ A1 c1, e = .returned (.tuple #[.agg (af4.fd A1 c1).cells.toArray, .int .i64 0]) ∧ Got w A 1 w' A1 c1 [⟨0, 1, 3, 9, 2⟩] ∧ Below w.heap.size w w' := by
  have := fend_any af3 af3_full A c 0 1 2 w hd
  rwa [af_5.1, af_5.2] at this
theorem afc_6 (A : Option Addr) (c : Nat) (w : World) : Calls Tryz.prog 11 #[.agg (af4.fd A c).cells.toArray] w fun e w' => e = .returned (.tuple #[.int .i64 0, .int .i64 0]) ∧ Below w.heap.size w w' := by
  have := view_any (af4.fd A c) af4_full (af4_ok A c) w
  rwa [(view_1 (f := af4.fd A c) rfl).1, (view_1 (f := af4.fd A c) rfl).2, show (af4.fd A c).C = af4.C from rfl, af_6.1, af_6.2] at this
theorem afc_7 (A : Option Addr) (c : Nat) (w : World) (hd : Row w A 1 [⟨0, 1, 3, 9, 2⟩]) : Calls Tryz.prog 16 #[.agg (af4.fd A c).cells.toArray] w fun e w' => e = .returned (.bool true) ∧ Below w.heap.size w w' :=
  right_any7 (af4.fd A c) af4_full (show ByteArray.size ⟨#[97]⟩ ≤ 1000 by decide) [⟨0, 1, 3, 9, 2⟩] w hd true (af_8 A c)
set_option maxHeartbeats 2000000 in
theorem awake_w (p1 p2 p3 p4 : Pf) (F1 : p1.full) (F2 : p2.full) (F3 : p3.full) (F4 : p4.full) (h2 h4 : List Ho)
    (C1 : ∀ w, Calls Tryz.prog 20 #[.string ⟨#[97]⟩, .int .i64 5, .int .i64 0, .int .i64 10] w fun e w' => e = .returned (.tuple #[.agg (p1.fd none 0).cells.toArray, .int .i64 0]) ∧ Below w.heap.size w w')
    (C2 : ∀ A c w, Row w A 0 [] → Calls Tryz.prog 32 #[.agg (p1.fd A c).cells.toArray, .int .i64 0, .int .i64 3, .int .i64 9] w fun e w' => ∃ A1 c1, e = .returned (.tuple #[.agg (p2.fd A1 c1).cells.toArray, .int .i64 1, .int .i64 0]) ∧ Got w A 0 w' A1 c1 h2 ∧ Below w.heap.size w w')
    (C3 : ∀ A c w, Row w A h2.length h2 → Calls Tryz.prog 24 #[.agg (p2.fd A c).cells.toArray, .int .i64 0, .int .i64 (-3)] w fun e w' => ∃ A1 c1, e = .returned (.tuple #[.agg (zP.fd A1 c1).cells.toArray, .int .i64 8]) ∧ Got w A h2.length w' A1 c1 [] ∧ Below w.heap.size w w')
    (C4 : ∀ A c w, Row w A h2.length h2 → Calls Tryz.prog 24 #[.agg (p2.fd A c).cells.toArray, .int .i64 0, .int .i64 (-2)] w fun e w' => ∃ A1 c1, e = .returned (.tuple #[.agg (p3.fd A1 c1).cells.toArray, .int .i64 0]) ∧ Got w A h2.length w' A1 c1 h2 ∧ Below w.heap.size w w')
    (C5 : ∀ A c w, Row w A h2.length h2 → Calls Tryz.prog 34 #[.agg (p3.fd A c).cells.toArray, .int .i64 0, .int .i64 1, .int .i64 2] w fun e w' => ∃ A1 c1, e = .returned (.tuple #[.agg (p4.fd A1 c1).cells.toArray, .int .i64 0]) ∧ Got w A h2.length w' A1 c1 h4 ∧ Below w.heap.size w w')
    (C6 : ∀ A c w, Calls Tryz.prog 11 #[.agg (p4.fd A c).cells.toArray] w fun e w' => e = .returned (.tuple #[.int .i64 0, .int .i64 0]) ∧ Below w.heap.size w w')
    (C7 : ∀ A c w, Row w A h4.length h4 → Calls Tryz.prog 16 #[.agg (p4.fd A c).cells.toArray] w fun e w' => e = .returned (.bool true) ∧ Below w.heap.size w w')
    (w : World) : Calls Tryz.prog 10 #[] w fun e w' => e = .returned (.bool true) ∧ Below w.heap.size w w' := by
  have HK := Lib.hid (KeepF.start (w := w) (rows := [(none, 0, [])]) (by simpa using Row.nil w none))
  go_enter Tryz.func10, Tryz.ntmps10
  go_wp2_with (first
    | (go_at_call 20; (with_reducible refine (C1 _).mono ?_); rintro e u ⟨rfl, hb⟩; have hk := HK.out.call hb; clear hb; clear HK; have HK := Lib.hid hk; clear hk)
    | (with_reducible refine alloc_f HK.out f_zeroP rfl rfl ?_; intro bf u hk; clear HK; have HK := Lib.hid hk; clear hk)
    | (with_reducible refine store_fr HK.out 0 (Pf.infoF F1) (Fd.one _) rfl rfl _ _ rfl rfl rfl rfl (Fd.leP zP_full F1) (Fd.setAllP zP_full F1) ?_; intro u hk; simp only [List.set_cons_zero] at hk; clear HK; have HK := Lib.hid hk; clear hk)
    | (with_reducible refine store_fr HK.out 0 (Pf.infoF F2) (Fd.one _) rfl rfl _ _ rfl rfl rfl rfl (Fd.leP zP_full F2) (Fd.setAllP zP_full F2) ?_; intro u hk; simp only [List.set_cons_zero] at hk; clear HK; have HK := Lib.hid hk; clear hk)
    | (with_reducible refine store_fr HK.out 0 (Pf.infoF zP_full) (Fd.one _) rfl rfl _ _ rfl rfl rfl rfl (Fd.leP zP_full zP_full) (Fd.setAllP zP_full zP_full) ?_; intro u hk; simp only [List.set_cons_zero] at hk; clear HK; have HK := Lib.hid hk; clear hk)
    | (with_reducible refine store_fr HK.out 0 (Pf.infoF F3) (Fd.one _) rfl rfl _ _ rfl rfl rfl rfl (Fd.leP zP_full F3) (Fd.setAllP zP_full F3) ?_; intro u hk; simp only [List.set_cons_zero] at hk; clear HK; have HK := Lib.hid hk; clear hk)
    | (with_reducible refine store_fr HK.out 0 (Pf.infoF F4) (Fd.one _) rfl rfl _ _ rfl rfl rfl rfl (Fd.leP zP_full F4) (Fd.setAllP zP_full F4) ?_; intro u hk; simp only [List.set_cons_zero] at hk; clear HK; have HK := Lib.hid hk; clear hk)
    | (with_reducible refine load_fr HK.out 0 Tryz.underlying33 rfl (Pf.infoF F1) _ rfl rfl rfl rfl Pf.all ?_)
    | (go_at_call 32; (with_reducible refine (C2 _ _ _ (HK.out.rowAt 0 rfl)).mono ?_); rintro e u ⟨A1, c1, rfl, hg, hb⟩; have hk := HK.out.got hb 0 rfl hg; clear hg hb; clear HK; have HK := Lib.hid hk; clear hk)
    | (with_reducible refine load_fr HK.out 0 Tryz.underlying33 rfl (Pf.infoF F2) _ rfl rfl rfl rfl Pf.all ?_)
    | (go_at_call 24; (with_reducible refine (C3 _ _ _ (HK.out.rowAt 0 rfl)).mono ?_); rintro e u ⟨A1, c1, rfl, hg, hb⟩; have hk := HK.out.got hb 0 rfl hg; clear hg hb; clear HK; have HK := Lib.hid hk; clear hk)
    | (with_reducible refine load_fr HK.out 1 Tryz.underlying33 rfl (Pf.infoF F2) _ rfl rfl rfl rfl Pf.all ?_)
    | (go_at_call 24; (with_reducible refine (C4 _ _ _ (HK.out.rowAt 1 rfl)).mono ?_); rintro e u ⟨A1, c1, rfl, hg, hb⟩; have hk := HK.out.got hb 1 rfl hg; clear hg hb; clear HK; have HK := Lib.hid hk; clear hk)
    | (with_reducible refine load_fr HK.out 0 Tryz.underlying33 rfl (Pf.infoF F3) _ rfl rfl rfl rfl Pf.all ?_)
    | (go_at_call 34; (with_reducible refine (C5 _ _ _ (HK.out.rowAt 0 rfl)).mono ?_); rintro e u ⟨A1, c1, rfl, hg, hb⟩; have hk := HK.out.got hb 0 rfl hg; clear hg hb; clear HK; have HK := Lib.hid hk; clear hk)
    | (with_reducible refine load_fr HK.out 0 Tryz.underlying33 rfl (Pf.infoF F4) _ rfl rfl rfl rfl Pf.all ?_)
    | (go_at_call 11; (with_reducible refine (C6 _ _ _).mono ?_); rintro e u ⟨rfl, hb⟩; have hk := HK.out.call hb; clear hb; clear HK; have HK := Lib.hid hk; clear hk)
    | (go_at_call 16; (with_reducible refine (C7 _ _ _ (HK.out.rowAt 0 rfl)).mono ?_); rintro e u ⟨rfl, hb⟩; have hk := HK.out.call hb; clear hb; clear HK; have HK := Lib.hid hk; clear hk)
    | (with_reducible refine load_fr HK.out 0 Tryz.underlying33 rfl (Pf.infoF F4) _ rfl rfl rfl rfl Pf.all ?_))
  go_ret
  exact ⟨rfl, HK.out.bel⟩
theorem awake_f (w : World) : Calls Tryz.prog 10 #[] w fun e w' => e = .returned (.bool true) ∧ Below w.heap.size w w' :=
  awake_w af1 af2 af3 af4 af1_full af2_full af3_full af4_full [⟨0, 1, 3, 9, 1⟩] [⟨0, 1, 3, 9, 2⟩] afc_1 afc_2 afc_3 afc_4 afc_5 afc_6 afc_7 w
end Go.Proofs.YtbaccghnneidgaaGreat
