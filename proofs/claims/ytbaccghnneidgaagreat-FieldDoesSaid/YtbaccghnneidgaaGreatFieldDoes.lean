/- What comes of adding, handing on, writing and passing on, of any field that may be, is the document's. No condition. -/
import Derived.Test.YtbaccghnneidgaaGreatFa
import Derived.WalkKit
import Derived.ProofKit
import Derived.OpenShut
import Derived.ChangeOld
import Derived.Below
namespace Go.Proofs.YtbaccghnneidgaaGreat.fieldDoes
open Go.ChangeShapes Go.WideShapes Go.ChangeAt Go.RowKit
set_option linter.unusedVariables false

theorem own : ownKnob Tryz.prog.godebug = none := by kernel_rfl
theorem laidOut : laidOutB Tryz.prog = true := by kernel_rfl

theorem right_rights {p : Pf} {A : Option Addr} {c : Nat} (h : rightF (p.fd A c) p.hs = true) : p.k = 1 → rightsL p.hs = true := fun k1 => by
  unfold rightF at h
  simp only [Bool.and_eq_true, Bool.or_eq_true] at h
  rcases h.2 with h | h
  · unfold rcB at h
    simp only [Bool.and_eq_true] at h
    exact h.1.2
  · unfold rlB at h
    simp only [Bool.and_eq_true, beq_iff_eq] at h
    have := h.1.1.1
    rw [show (p.fd A c).k = p.k from rfl, k1] at this
    cases this
theorem same2 (P : Pf) (hP : P.full) (E : Int) (A B : Option Addr) (c d : Nat) (w : World) (h1 : Row w A P.hs.length P.hs) (h2 : Row w B P.hs.length P.hs) :
    Calls Tryz.prog 22 #[.agg (P.fd A c).cells.toArray, .int .i64 E, .agg (P.fd B d).cells.toArray, .int .i64 E] w fun e w' => e = .returned (.bool true) ∧ Below w.heap.size w w' := by
  have HF := Lib.hid hP; clear hP
  have HK := Lib.hid (KeepF.start (w := w) (rows := [(A, P.hs.length, P.hs), (B, P.hs.length, P.hs)]) (by simpa using ⟨h1, h2⟩))
  go_enter Tryz.func22, Tryz.ntmps22
  go_wp2_with (first
    | (with_reducible refine box_f HK.out rfl _ rfl rfl ?_; intro b u hk; clear HK; have HK := Lib.hid hk; clear hk)
    | (with_reducible refine load_fr HK.out 1 Tryz.underlying33 rfl (Pf.infoF HF.out) _ rfl rfl rfl rfl Pf.all ?_)
    | (with_reducible refine load_fr HK.out 0 Tryz.underlying33 rfl (Pf.infoF HF.out) _ rfl rfl rfl rfl Pf.all ?_)
    | (go_at_call 23; (with_reducible refine (rsame_any P HF.out A B c d _ (HK.out.rowAt 0 rfl) (HK.out.rowAt 1 rfl)).mono ?_); rintro e u ⟨rfl, hb⟩; have hk := HK.out.call hb; clear hb; clear HK; have HK := Lib.hid hk; clear hk))
  go_ret
  exact ⟨rfl, HK.out.bel⟩

set_option maxRecDepth 100000 in
set_option maxHeartbeats 8000000 in
theorem walk (w : World) (p0 : Pf) (A0 : Option Addr) (c0 : Nat) (hp0 : p0.full) (hd0 : Came w A0 p0.hs.length p0.hs) (hc0 : p0.hs.length ≤ c0) (hw0 : ∀ z ∈ p0.C, (Lit.int .i64 z).wf = true) (a1 : Int) (w1 : (Lit.int .i64 a1).wf = true) (a2 : Int) (w2 : (Lit.int .i64 a2).wf = true) (a3 : Int) (w3 : (Lit.int .i64 a3).wf = true) (a4 : Int) (w4 : (Lit.int .i64 a4).wf = true) :
    Calls Tryz.prog 5 #[.agg (p0.fd A0 c0).cells.toArray, .int .i64 a1, .int .i64 a2, .int .i64 a3, .int .i64 a4] w fun e w' => e = .returned (.bool true) ∧ Below w.heap.size w w' := by
  cases hfew : fewP p0 with
  | false =>
    have HFEW := Lib.hid hfew
    have HF := Lib.hid hp0; clear hp0
    have HK := Lib.hid (KeepF.start (w := w) (rows := []) (by simp))
    clear hd0
    go_enter Tryz.func5, Tryz.ntmps5
    go_wp2_with (first
      | (with_reducible refine box_f HK.out rfl _ rfl rfl ?_; intro b1 u hk; clear HK; have HK := Lib.hid hk; clear hk)
      | (with_reducible refine load_fr HK.out 0 Tryz.underlying33 rfl (Pf.infoF HF.out) _ rfl rfl rfl rfl Pf.all ?_)
      | (with_reducible refine build_f1 HK.out rfl _ rfl HF.out rfl ?_; intro b2 u hk; clear HK; have HK := Lib.hid hk; clear hk)
      | (go_at_call 9; (with_reducible refine (few_f p0 HF.out A0 c0 _ _ HFEW.out _ (HK.out.get 0 rfl)).mono ?_); rintro e u ⟨rfl, hb⟩; have hk := HK.out.call hb; clear hb; clear HK; have HK := Lib.hid hk; clear hk)
      | (go_at_call 10; (with_reducible refine (awake_f _).mono ?_); rintro e u ⟨rfl, hb⟩; have hk := HK.out.call hb; clear hb; clear HK; have HK := Lib.hid hk; clear hk))
    go_ret
    exact ⟨rfl, HK.out.bel⟩
  | true =>
    have hsz : p0.nm.size ≤ 100 ∧ p0.hs.length ≤ 40 := by simpa [fewP] using hfew
    have hrow := hd0.row (by omega)
    have HFEW := Lib.hid hfew
    have HF := Lib.hid hp0
    have HK := Lib.hid (KeepF.start (w := w) (rows := [(A0, p0.hs.length, p0.hs)]) (by simpa using hrow))
    cases hr : rightF (p0.fd A0 c0) p0.hs with
    | false =>
      have hr2 := fun w h => rright_any7 (p0.fd A0 c0) hp0 (by have := hsz.1; exact Nat.le_trans this (by omega)) p0.hs w h _ hr
      clear hr hrow hd0 hsz hfew
      go_enter Tryz.func5, Tryz.ntmps5
      go_wp2_with (first
        | (with_reducible refine box_f HK.out rfl _ rfl rfl ?_; intro b1 u hk; clear HK; have HK := Lib.hid hk; clear hk)
        | (with_reducible refine load_fr HK.out 0 Tryz.underlying33 rfl (Pf.infoF HF.out) _ rfl rfl rfl rfl Pf.all ?_)
        | (with_reducible refine build_f1 HK.out rfl _ rfl HF.out rfl ?_; intro b2 u hk; clear HK; have HK := Lib.hid hk; clear hk)
        | (go_at_call 9; (with_reducible refine (few_f p0 HF.out A0 c0 _ _ HFEW.out _ (HK.out.get 0 rfl)).mono ?_); rintro e u ⟨rfl, hb⟩; have hk := HK.out.call hb; clear hb; clear HK; have HK := Lib.hid hk; clear hk)
        | (with_reducible refine load_fr HK.out 1 Tryz.underlying33 rfl (Pf.infoF HF.out) _ rfl rfl rfl rfl Pf.all ?_)
        | (go_at_call 14; (with_reducible refine (hr2 _ (HK.out.rowAt 0 rfl)).mono ?_); rintro e u ⟨rfl, hb⟩; have hk := HK.out.call hb; clear hb; clear HK; have HK := Lib.hid hk; clear hk)
        | (go_at_call 10; (with_reducible refine (awake_f _).mono ?_); rintro e u ⟨rfl, hb⟩; have hk := HK.out.call hb; clear hb; clear HK; have HK := Lib.hid hk; clear hk))
      go_ret
      exact ⟨rfl, HK.out.bel⟩
    | true =>
      have hr2 := fun w h => rright_any7 (p0.fd A0 c0) hp0 (by have := hsz.1; exact Nat.le_trans this (by omega)) p0.hs w h _ hr
      have hrr := right_rights hr
      have hf1 := fun w h => fadd_any p0 hp0 A0 c0 a2 a3 w h
      have hg1 := fun w h => radd_f p0 hp0 A0 c0 hc0 hrr a2 a3 w h
      have HP1 := Lib.hid (addP_full hp0 a2 a3)
      generalize addP p0 a2 a3 = P1 at hf1 hg1 HP1
      generalize addPE p0 a2 a3 = E1 at hf1 hg1
      have hs1 := same2 P1 HP1.out E1
      have hf2 := fun w h => fhand_any p0 hp0 A0 c0 a1 a2 a3 a4 w h
      have hg2 := fun w h => rhand_f p0 hp0 A0 c0 hc0 hrr a1 a2 a3 a4 w h
      have HP2 := Lib.hid (handP_full hp0 a1 a2 a3 a4)
      generalize handP p0 a1 a2 a3 a4 = P2 at hf2 hg2 HP2
      generalize handPE p0 a1 a2 a3 a4 = E2 at hf2 hg2
      have hs2 := same2 P2 HP2.out E2
      have hf3 := fun w h => fwrite_any p0 hp0 A0 c0 a2 a3 w h
      have hg3 := fun w h => rwrite_f p0 hp0 A0 c0 hc0 a2 a3 w h
      have HP3 := Lib.hid (wrP_full hp0 a2 a3)
      generalize wrP p0 a2 a3 = P3 at hf3 hg3 HP3
      generalize wrPE p0 a2 a3 = E3 at hf3 hg3
      have hs3 := same2 P3 HP3.out E3
      have hf4 := fun w h => fpass_any p0 hp0 A0 c0 a2 a3 w h
      have hg4 := fun w h => rpass_f p0 hp0 A0 c0 hc0 a2 a3 w h
      have HP4 := Lib.hid (psP_full hp0 a2 a3)
      generalize psP p0 a2 a3 = P4 at hf4 hg4 HP4
      generalize psPE p0 a2 a3 = E4 at hf4 hg4
      have hs4 := same2 P4 HP4.out E4
      clear hr hrr hrow hd0 hsz hfew hw0 hc0 hp0 w1 w2 w3 w4
      go_enter Tryz.func5, Tryz.ntmps5
      go_wp2_with (first
        | (with_reducible refine box_f HK.out rfl _ rfl rfl ?_; intro b1 u hk; clear HK; have HK := Lib.hid hk; clear hk)
        | (with_reducible refine load_fr HK.out 0 Tryz.underlying33 rfl (Pf.infoF HF.out) _ rfl rfl rfl rfl Pf.all ?_)
        | (with_reducible refine build_f1 HK.out rfl _ rfl HF.out rfl ?_; intro b2 u hk; clear HK; have HK := Lib.hid hk; clear hk)
        | (go_at_call 9; (with_reducible refine (few_f p0 HF.out A0 c0 _ _ HFEW.out _ (HK.out.get 0 rfl)).mono ?_); rintro e u ⟨rfl, hb⟩; have hk := HK.out.call hb; clear hb; clear HK; have HK := Lib.hid hk; clear hk)
        | (with_reducible refine load_fr HK.out 1 Tryz.underlying33 rfl (Pf.infoF HF.out) _ rfl rfl rfl rfl Pf.all ?_)
        | (with_reducible refine load_fr HK.out 2 Tryz.underlying33 rfl (Pf.infoF HF.out) _ rfl rfl rfl rfl Pf.all ?_)
        | (with_reducible refine load_fr HK.out 3 Tryz.underlying33 rfl (Pf.infoF HF.out) _ rfl rfl rfl rfl Pf.all ?_)
        | (with_reducible refine load_fr HK.out 4 Tryz.underlying33 rfl (Pf.infoF HF.out) _ rfl rfl rfl rfl Pf.all ?_)
        | (with_reducible refine load_fr HK.out 5 Tryz.underlying33 rfl (Pf.infoF HF.out) _ rfl rfl rfl rfl Pf.all ?_)
        | (with_reducible refine load_fr HK.out 6 Tryz.underlying33 rfl (Pf.infoF HF.out) _ rfl rfl rfl rfl Pf.all ?_)
        | (with_reducible refine load_fr HK.out 7 Tryz.underlying33 rfl (Pf.infoF HF.out) _ rfl rfl rfl rfl Pf.all ?_)
        | (with_reducible refine load_fr HK.out 8 Tryz.underlying33 rfl (Pf.infoF HF.out) _ rfl rfl rfl rfl Pf.all ?_)
        | (with_reducible refine load_fr HK.out 9 Tryz.underlying33 rfl (Pf.infoF HF.out) _ rfl rfl rfl rfl Pf.all ?_)
        | (go_at_call 14; (with_reducible refine (hr2 _ (HK.out.rowAt 0 rfl)).mono ?_); rintro e u ⟨rfl, hb⟩; have hk := HK.out.call hb; clear hb; clear HK; have HK := Lib.hid hk; clear hk)
        | (with_reducible refine alloc_f HK.out f_zeroP rfl rfl ?_; intro bz u hk; clear HK; have HK := Lib.hid hk; clear hk)
        | (go_at_call 24; (with_reducible refine (hf1 _ (HK.out.rowAt 0 rfl)).mono ?_); rintro e u ⟨A1, c1, rfl, hg, hb⟩; have hk := HK.out.got hb 0 rfl hg; clear hg hb; clear HK; have HK := Lib.hid hk; clear hk)
        | (go_at_call 25; (with_reducible refine (hg1 _ (HK.out.rowAt 1 rfl)).mono ?_); rintro e u ⟨A2, c2, rfl, hg, hb⟩; have hk := HK.out.got hb 1 rfl hg; clear hg hb; clear HK; have HK := Lib.hid hk; clear hk)
        | (with_reducible refine store_fr HK.out 0 (Pf.infoF HP1.out) (Fd.one _) rfl rfl _ _ rfl rfl rfl rfl (Fd.leP zP_full HP1.out) (Fd.setAllP zP_full HP1.out) ?_; intro u hk; simp only [List.set_cons_zero] at hk; clear HK; have HK := Lib.hid hk; clear hk)
        | (go_at_call 26; (with_reducible refine (hf2 _ (HK.out.rowAt 2 rfl)).mono ?_); rintro e u ⟨A3, c3, rfl, hg, hb⟩; have hk := HK.out.got hb 2 rfl hg; clear hg hb; clear HK; have HK := Lib.hid hk; clear hk)
        | (go_at_call 27; (with_reducible refine (hg2 _ (HK.out.rowAt 3 rfl)).mono ?_); rintro e u ⟨A4, c4, rfl, hg, hb⟩; have hk := HK.out.got hb 3 rfl hg; clear hg hb; clear HK; have HK := Lib.hid hk; clear hk)
        | (with_reducible refine store_fr HK.out 0 (Pf.infoF HP2.out) (Fd.one _) rfl rfl _ _ rfl rfl rfl rfl (Fd.leP zP_full HP2.out) (Fd.setAllP zP_full HP2.out) ?_; intro u hk; simp only [List.set_cons_zero] at hk; clear HK; have HK := Lib.hid hk; clear hk)
        | (go_at_call 28; (with_reducible refine (hf3 _ (HK.out.rowAt 4 rfl)).mono ?_); rintro e u ⟨A5, c5, rfl, hg, hb⟩; have hk := HK.out.got hb 4 rfl hg; clear hg hb; clear HK; have HK := Lib.hid hk; clear hk)
        | (go_at_call 29; (with_reducible refine (hg3 _ (HK.out.rowAt 5 rfl)).mono ?_); rintro e u ⟨A6, c6, rfl, hg, hb⟩; have hk := HK.out.got hb 5 rfl hg; clear hg hb; clear HK; have HK := Lib.hid hk; clear hk)
        | (with_reducible refine store_fr HK.out 0 (Pf.infoF HP3.out) (Fd.one _) rfl rfl _ _ rfl rfl rfl rfl (Fd.leP zP_full HP3.out) (Fd.setAllP zP_full HP3.out) ?_; intro u hk; simp only [List.set_cons_zero] at hk; clear HK; have HK := Lib.hid hk; clear hk)
        | (go_at_call 30; (with_reducible refine (hf4 _ (HK.out.rowAt 6 rfl)).mono ?_); rintro e u ⟨A7, c7, rfl, hg, hb⟩; have hk := HK.out.got hb 6 rfl hg; clear hg hb; clear HK; have HK := Lib.hid hk; clear hk)
        | (go_at_call 31; (with_reducible refine (hg4 _ (HK.out.rowAt 7 rfl)).mono ?_); rintro e u ⟨A8, c8, rfl, hg, hb⟩; have hk := HK.out.got hb 7 rfl hg; clear hg hb; clear HK; have HK := Lib.hid hk; clear hk)
        | (with_reducible refine store_fr HK.out 0 (Pf.infoF HP4.out) (Fd.one _) rfl rfl _ _ rfl rfl rfl rfl (Fd.leP zP_full HP4.out) (Fd.setAllP zP_full HP4.out) ?_; intro u hk; simp only [List.set_cons_zero] at hk; clear HK; have HK := Lib.hid hk; clear hk)
        | (with_reducible refine load_fr HK.out 7 Tryz.underlying33 rfl (Pf.infoF HP1.out) _ rfl rfl rfl rfl Pf.all ?_)
        | (with_reducible refine load_fr HK.out 6 Tryz.underlying33 rfl (Pf.infoF HP1.out) _ rfl rfl rfl rfl Pf.all ?_)
        | (go_at_call 22; (with_reducible refine (hs1 _ _ _ _ _ (HK.out.rowAt 7 rfl) (HK.out.rowAt 6 rfl)).mono ?_); rintro e u ⟨rfl, hb⟩; have hk := HK.out.call hb; clear hb; clear HK; have HK := Lib.hid hk; clear hk)
        | (with_reducible refine load_fr HK.out 5 Tryz.underlying33 rfl (Pf.infoF HP2.out) _ rfl rfl rfl rfl Pf.all ?_)
        | (with_reducible refine load_fr HK.out 4 Tryz.underlying33 rfl (Pf.infoF HP2.out) _ rfl rfl rfl rfl Pf.all ?_)
        | (go_at_call 22; (with_reducible refine (hs2 _ _ _ _ _ (HK.out.rowAt 5 rfl) (HK.out.rowAt 4 rfl)).mono ?_); rintro e u ⟨rfl, hb⟩; have hk := HK.out.call hb; clear hb; clear HK; have HK := Lib.hid hk; clear hk)
        | (with_reducible refine load_fr HK.out 3 Tryz.underlying33 rfl (Pf.infoF HP3.out) _ rfl rfl rfl rfl Pf.all ?_)
        | (with_reducible refine load_fr HK.out 2 Tryz.underlying33 rfl (Pf.infoF HP3.out) _ rfl rfl rfl rfl Pf.all ?_)
        | (go_at_call 22; (with_reducible refine (hs3 _ _ _ _ _ (HK.out.rowAt 3 rfl) (HK.out.rowAt 2 rfl)).mono ?_); rintro e u ⟨rfl, hb⟩; have hk := HK.out.call hb; clear hb; clear HK; have HK := Lib.hid hk; clear hk)
        | (with_reducible refine load_fr HK.out 1 Tryz.underlying33 rfl (Pf.infoF HP4.out) _ rfl rfl rfl rfl Pf.all ?_)
        | (with_reducible refine load_fr HK.out 0 Tryz.underlying33 rfl (Pf.infoF HP4.out) _ rfl rfl rfl rfl Pf.all ?_)
        | (go_at_call 22; (with_reducible refine (hs4 _ _ _ _ _ (HK.out.rowAt 1 rfl) (HK.out.rowAt 0 rfl)).mono ?_); rintro e u ⟨rfl, hb⟩; have hk := HK.out.call hb; clear hb; clear HK; have HK := Lib.hid hk; clear hk)
        | (go_at_call 10; (with_reducible refine (awake_f _).mono ?_); rintro e u ⟨rfl, hb⟩; have hk := HK.out.call hb; clear hb; clear HK; have HK := Lib.hid hk; clear hk))
      go_ret
      exact ⟨rfl, HK.out.bel⟩

set_option maxRecDepth 100000 in
theorem lifted (os : Os) (started : os.Started) (H : Type) (enc : TypeId × Value → H) :
    ReturnsInHanded {} Tryz.checked os 5 .any (Rows.fieldDoesSpec.pre6 enc Tryz.prog Tryz.f5 Rows.fieldDoesRow.domain false) (Rows.fieldDoesSpec.post enc Tryz.prog Tryz.f5 false true false false) := by
  refine returnsInHanded_of_change (C := Tryz.checked) own started (by kernel_rfl) Tryz.func5
    (ChangeSpec.witness6 (enc := enc) (C := Tryz.checked) false ⟨#[], #[.agg (zP.fd none 0).cells.toArray, .int .i64 0, .int .i64 0, .int .i64 0, .int .i64 0], []⟩ 12 (by kernel_rfl) (by kernel_rfl) (by kernel_rfl) (by kernel_rfl)) ?_
  intro W base args ds gs before hval0 hW hcnd _
  have hval : ∀ (j : Nat) t v, Tryz.f5.params[j]? = some t → args[j]? = some v → Value.okWide Tryz.prog W .any base t v := hval0
  have hW' := hW
  obtain ⟨p, q, hA0, hV, rfl, hfz, hnd⟩ := hW
  have hA : DataW.TrodAll enc Tryz.prog W 0 (fun _ => true) true Tryz.f5.params.toList args.toList ds p := hA0
  rw [Tryz.params5] at hA hval
  obtain ⟨v0, vs0, d0, ds0, q0, r0, hargs, rfl, rfl, h0, t0⟩ := trodAll_cons hA
  obtain ⟨v1, vs1, d1, ds1, q1, r1, rfl, rfl, rfl, h1, t1⟩ := trodAll_cons t0
  obtain ⟨v2, vs2, d2, ds2, q2, r2, rfl, rfl, rfl, h2, t2⟩ := trodAll_cons t1
  obtain ⟨v3, vs3, d3, ds3, q3, r3, rfl, rfl, rfl, h3, t3⟩ := trodAll_cons t2
  obtain ⟨v4, vs4, d4, ds4, q4, r4, rfl, rfl, rfl, h4, t4⟩ := trodAll_cons t3
  obtain ⟨rfl, rfl, rfl⟩ := trodAll_nil t4
  obtain rfl : args = #[v0, v1, v2, v3, v4] := by cases args; simp_all
  obtain ⟨rfl, rfl⟩ := trodVars_none hV
  have k0 := h0
  have lt0 : ∀ x ∈ q0, x.block < W.heap.size := by obtain ⟨m, hm⟩ := k0; exact DataW.trod_lt m _ _ _ hm
  obtain ⟨p0, A0, c0, rfl, hp0, hd0, hc0, hw0⟩ := open_f (hval 0 33 v0 rfl rfl) h0
  have k1 := h1
  have lt1 : ∀ x ∈ q1, x.block < W.heap.size := by obtain ⟨m, hm⟩ := k1; exact DataW.trod_lt m _ _ _ hm
  obtain ⟨a1, rfl, rfl, rfl, w1⟩ := open_int Tryz.underlying3 (hval 1 3 v1 rfl rfl) h1
  have k2 := h2
  have lt2 : ∀ x ∈ q2, x.block < W.heap.size := by obtain ⟨m, hm⟩ := k2; exact DataW.trod_lt m _ _ _ hm
  obtain ⟨a2, rfl, rfl, rfl, w2⟩ := open_int Tryz.underlying3 (hval 2 3 v2 rfl rfl) h2
  have k3 := h3
  have lt3 : ∀ x ∈ q3, x.block < W.heap.size := by obtain ⟨m, hm⟩ := k3; exact DataW.trod_lt m _ _ _ hm
  obtain ⟨a3, rfl, rfl, rfl, w3⟩ := open_int Tryz.underlying3 (hval 3 3 v3 rfl rfl) h3
  have k4 := h4
  have lt4 : ∀ x ∈ q4, x.block < W.heap.size := by obtain ⟨m, hm⟩ := k4; exact DataW.trod_lt m _ _ _ hm
  obtain ⟨a4, rfl, rfl, rfl, w4⟩ := open_int Tryz.underlying3 (hval 4 3 v4 rfl rfl) h4
  clear hA0 hval0
  refine (walk W p0 A0 c0 hp0 hd0 hc0 hw0 a1 w1 a2 w2 a3 w3 a4 w4).mono fun e W' ⟨he, bel⟩ => ?_
  subst he
  exact ⟨_, rfl, _, _, _, [], _, [], hW', trodAll_mk1 (shut_bool Tryz.underlying4 _), (trodAll_cons_mk (Below.trod laidOut (by kernel_rfl) (of_decide_eq_true (by kernel_rfl)) k0 bel lt0) (trodAll_cons_mk (Below.trod laidOut (by kernel_rfl) (of_decide_eq_true (by kernel_rfl)) k1 bel lt1) (trodAll_cons_mk (Below.trod laidOut (by kernel_rfl) (of_decide_eq_true (by kernel_rfl)) k2 bel lt2) (trodAll_cons_mk (Below.trod laidOut (by kernel_rfl) (of_decide_eq_true (by kernel_rfl)) k3 bel lt3) (trodAll_cons_mk (Below.trod laidOut (by kernel_rfl) (of_decide_eq_true (by kernel_rfl)) k4 bel lt4) trodAll_mk0))))), rfl, bel.frame _, fun h => by cases h⟩

theorem over : Rows.fieldDoesRow.holds Tryz.pinned (OpenSpec.ofChange Rows.fieldDoesSpec) :=
  OpenClaim.holds_of_wide 5 Tryz.f5 rfl rfl rfl rfl rfl rfl rfl ⟨rfl, rfl, rfl, rfl, rfl⟩ rfl rfl rfl rfl rfl (by kernel_rfl) Tryz.func5 (by kernel_rfl)
    (of_decide_eq_true (by kernel_rfl)) (by unfold Func.isWrapper; first | (rw [if_pos (by decide +kernel)]; kernel_rfl) | (rw [if_neg (by decide +kernel)]; exact ⟨rfl, rfl⟩))
    (fun os started H enc _ => lifted os started H enc)

theorem proved : Rows.FieldDoesSaid := over
#print axioms proved
end Go.Proofs.YtbaccghnneidgaaGreat.fieldDoes
