/- usufructlaw10.WireUps returns true for every input: a field with any residue may be, or it is told that it may not; what is up, taken down again, is what it was of. No condition. -/
import Derived.Test.YtofngihdnjgmeaaLWq
import Derived.WalkKit
import Derived.ProofKit
import Derived.OpenShut
import Derived.ChangeOld
import Derived.Below
namespace Go.Proofs.Ytofngihdnjgmeaa.wireUps
open Go.ChangeShapes Go.WideShapes Go.ChangeAt Go.RowKit
set_option linter.unusedVariables false

theorem own : ownKnob Try.prog.godebug = none := by kernel_rfl
theorem laidOut : laidOutB Try.prog = true := by kernel_rfl

set_option maxRecDepth 100000 in
set_option maxHeartbeats 4000000 in
theorem walk (w : World) (p0 : Pf) (A0 : Option Addr) (c0 : Nat) (hp0 : p0.full) (hd0 : Came w A0 p0.hs.length p0.hs) (hc0 : p0.hs.length ≤ c0) (hw0 : ∀ z ∈ p0.C, (Lit.int .i64 z).wf = true) (a1 : Int) (w1 : (Lit.int .i64 a1).wf = true) (A2 : Option Addr) (n2 c2 : Nat) (x2 : List Ho) (hd2 : Came w A2 n2 x2) :
    Calls Try.prog 4 #[.agg (p0.fd A0 c0).cells.toArray, .int .i64 a1, .slice A2 n2 c2] w fun e w' => e = .returned (.bool true) ∧ Below w.heap.size w w' := by
  have HK0 := KeepF.start (w := w) (rows := []) (by simp)
  have hl2 : x2.length = n2 := hd2.1
  subst hl2
  cases hfew : fewP p0 with
  | false =>
    have HFEW := Lib.hid hfew
    have HF := Lib.hid hp0; clear hp0
    have HK := Lib.hid HK0
    clear hd0 HK0 hd2
    go_enter Try.func4, Try.ntmps4
    go_wp2_with (first
      | (with_reducible refine box_f HK.out rfl _ rfl rfl ?_; intro b1 u hk; clear HK; have HK := Lib.hid hk; clear hk)
      | (with_reducible refine load_fr HK.out 0 Try.underlying33 rfl (Pf.infoF HF.out) _ rfl rfl rfl rfl Pf.all ?_)
      | (with_reducible refine build_f1 HK.out rfl _ rfl HF.out rfl ?_; intro b2 u hk; clear HK; have HK := Lib.hid hk; clear hk)
      | (go_at_call 7; (with_reducible refine (few_f p0 HF.out A0 c0 _ _ HFEW.out _ (HK.out.get 0 rfl)).mono ?_); rintro e u ⟨rfl, hb⟩; have hk := HK.out.call hb; clear hb; clear HK; have HK := Lib.hid hk; clear hk)
      | (with_reducible refine load_fr HK.out 1 Try.underlying33 rfl (Pf.infoF HF.out) _ rfl rfl rfl rfl Pf.all ?_)
      | (go_at_call 8; (with_reducible refine (awake_any _).mono ?_); rintro e u ⟨rfl, hb⟩; have hk := HK.out.call hb; clear hb; clear HK; have HK := Lib.hid hk; clear hk))
    go_ret
    exact ⟨rfl, HK.out.bel⟩
  | true =>
    obtain ⟨z1, z2⟩ := few_parts hfew
    have HFEW := Lib.hid hfew
    have HF := Lib.hid hp0
    have HK := Lib.hid HK0
    by_cases k2 : 40 < x2.length
    · have N2 := Lib.hid (show decide ((40 : Int) < (x2.length : Int)) = true by rw [decide_eq_true_eq]; omega)
      clear hd0 HK0 hd2 k2 z1 z2 hfew hp0
      go_enter Try.func4, Try.ntmps4
      go_wp2_with (first
        | (with_reducible refine box_f HK.out rfl _ rfl rfl ?_; intro b1 u hk; clear HK; have HK := Lib.hid hk; clear hk)
        | (with_reducible refine load_fr HK.out 0 Try.underlying33 rfl (Pf.infoF HF.out) _ rfl rfl rfl rfl Pf.all ?_)
        | (with_reducible refine build_f1 HK.out rfl _ rfl HF.out rfl ?_; intro b2 u hk; clear HK; have HK := Lib.hid hk; clear hk)
        | (go_at_call 7; (with_reducible refine (few_f p0 HF.out A0 c0 _ _ HFEW.out _ (HK.out.get 0 rfl)).mono ?_); rintro e u ⟨rfl, hb⟩; have hk := HK.out.call hb; clear hb; clear HK; have HK := Lib.hid hk; clear hk)
        | (with_reducible refine load_fr HK.out 1 Try.underlying33 rfl (Pf.infoF HF.out) _ rfl rfl rfl rfl Pf.all ?_)
        | (with_reducible refine gtr_want N2.out _ _ _ rfl rfl rfl rfl ?_)
        | (go_at_call 8; (with_reducible refine (awake_any _).mono ?_); rintro e u ⟨rfl, hb⟩; have hk := HK.out.call hb; clear hb; clear HK; have HK := Lib.hid hk; clear hk))
      go_ret
      exact ⟨rfl, HK.out.bel⟩
    · have m2 : decide ((40 : Int) < (x2.length : Int)) = false := by rw [decide_eq_false_iff_not]; omega
      by_cases l1 : (1099511627776 : Int) < a1
      · have N2 := Lib.hid m2
        have B1 := Lib.hid (show decide ((1099511627776 : Int) < a1) = true by simpa using l1)
        clear hd0 HK0 hd2 k2 z1 z2 hfew hp0 m2 l1
        go_enter Try.func4, Try.ntmps4
        go_wp2_with (first
          | (with_reducible refine box_f HK.out rfl _ rfl rfl ?_; intro b1 u hk; clear HK; have HK := Lib.hid hk; clear hk)
          | (with_reducible refine load_fr HK.out 0 Try.underlying33 rfl (Pf.infoF HF.out) _ rfl rfl rfl rfl Pf.all ?_)
          | (with_reducible refine build_f1 HK.out rfl _ rfl HF.out rfl ?_; intro b2 u hk; clear HK; have HK := Lib.hid hk; clear hk)
          | (go_at_call 7; (with_reducible refine (few_f p0 HF.out A0 c0 _ _ HFEW.out _ (HK.out.get 0 rfl)).mono ?_); rintro e u ⟨rfl, hb⟩; have hk := HK.out.call hb; clear hb; clear HK; have HK := Lib.hid hk; clear hk)
          | (with_reducible refine load_fr HK.out 1 Try.underlying33 rfl (Pf.infoF HF.out) _ rfl rfl rfl rfl Pf.all ?_)
          | (with_reducible refine gtr_want N2.out _ _ _ rfl rfl rfl rfl ?_)
          | (with_reducible refine gtr_want B1.out _ _ _ rfl rfl rfl rfl ?_)
          | (go_at_call 8; (with_reducible refine (awake_any _).mono ?_); rintro e u ⟨rfl, hb⟩; have hk := HK.out.call hb; clear hb; clear HK; have HK := Lib.hid hk; clear hk))
        go_ret
        exact ⟨rfl, HK.out.bel⟩
      · by_cases l2 : a1 < -1099511627776
        · have N2 := Lib.hid m2
          have B1 := Lib.hid (show decide ((1099511627776 : Int) < a1) = false by simpa using l1)
          have B2 := Lib.hid (show decide (a1 < -1099511627776) = true by simpa using l2)
          clear hd0 HK0 hd2 k2 z1 z2 hfew hp0 m2 l1 l2
          go_enter Try.func4, Try.ntmps4
          go_wp2_with (first
            | (with_reducible refine box_f HK.out rfl _ rfl rfl ?_; intro b1 u hk; clear HK; have HK := Lib.hid hk; clear hk)
            | (with_reducible refine load_fr HK.out 0 Try.underlying33 rfl (Pf.infoF HF.out) _ rfl rfl rfl rfl Pf.all ?_)
            | (with_reducible refine build_f1 HK.out rfl _ rfl HF.out rfl ?_; intro b2 u hk; clear HK; have HK := Lib.hid hk; clear hk)
            | (go_at_call 7; (with_reducible refine (few_f p0 HF.out A0 c0 _ _ HFEW.out _ (HK.out.get 0 rfl)).mono ?_); rintro e u ⟨rfl, hb⟩; have hk := HK.out.call hb; clear hb; clear HK; have HK := Lib.hid hk; clear hk)
            | (with_reducible refine load_fr HK.out 1 Try.underlying33 rfl (Pf.infoF HF.out) _ rfl rfl rfl rfl Pf.all ?_)
            | (with_reducible refine gtr_want N2.out _ _ _ rfl rfl rfl rfl ?_)
            | (with_reducible refine gtr_want B1.out _ _ _ rfl rfl rfl rfl ?_)
            | (with_reducible refine lss_want B2.out _ _ _ rfl rfl rfl rfl ?_)
            | (go_at_call 8; (with_reducible refine (awake_any _).mono ?_); rintro e u ⟨rfl, hb⟩; have hk := HK.out.call hb; clear hb; clear HK; have HK := Lib.hid hk; clear hk))
          go_ret
          exact ⟨rfl, HK.out.bel⟩
        · clear HK HF HFEW HK0
          have b1 : decide ((1099511627776 : Int) < a1) = false := by simpa using l1
          have b2 : decide (a1 < -1099511627776) = false := by simpa using l2
          have hN : p0.nm.size ≤ 1000 := by omega
          have hrow := hd0.row (by omega)
          have hrow2 := hd2.row (by omega)
          have hl : p0.hs.length + x2.length ≤ 1000 := by omega
          have hup := fun P E h1 h2 w k1 k2 => up_t p0 hp0 hN a1 w1 x2 hl P E h1 h2 A0 c0 A2 c2 w k1 k2
          cases hr : rightP p0 with
          | false =>
            have hE : upErr p0 a1 x2 = 1 := by simp [upErr, upArg, hr]
            exact ups_no p0 A0 c0 hp0 hc0 a1 A2 c2 x2 w hrow hrow2 hfew m2 b1 b2 (fun w h => rright_p p0 hp0 hN A0 c0 false hr w h) (hup zP 1 (by simp [uP, hE]) hE)
          | true =>
            have hrr := fun w h => rright_p p0 hp0 hN A0 c0 true hr w h
            by_cases hee : a1 ≠ 0 ∧ p0.e ≠ 0
            · have hE : upErr p0 a1 x2 = 1 := by simp [upErr, upArg, hee.1, hee.2]
              exact ups_ep p0 A0 c0 hp0 hc0 a1 A2 c2 x2 w hrow hrow2 hfew m2 b1 b2 hrr (by simp [hee.1]) (by simp [hee.2]) (hup zP 1 (by simp [uP, hE]) hE)
            · have hpe : IntKind.i64.wrap (p0.e + a1) = p0.e + a1 := by
                have h2 := (right_parts hr).2.1
                simp only [epB, Bool.and_eq_true, decide_eq_true_eq] at h2
                have h3 := isB_iff.1 h2.2
                simp [IntKind.wrap, IntKind.bits, IntKind.signed]; omega
              by_cases hh : 0 < p0.hs.length ∧ 0 < x2.length
              · have hE : upErr p0 a1 x2 = 1 := by simp only [upErr, upArg, hh.1, hh.2, decide_true, Bool.and_self, Bool.or_true, if_true]
                by_cases h0 : a1 = 0
                · exact ups_ho0 p0 A0 c0 hp0 hc0 a1 A2 c2 x2 w hrow hrow2 hfew m2 b1 b2 hrr (by simp [h0]) (posI hh.2) (posI hh.1) (hup zP 1 (by simp [uP, hE]) hE)
                · exact ups_ho1 p0 A0 c0 hp0 hc0 a1 A2 c2 x2 w hrow hrow2 hfew m2 b1 b2 hrr (by simp [h0]) (by have : p0.e = 0 := Classical.byContradiction fun h => hee ⟨h0, h⟩; simp [this]) (posI hh.2) (posI hh.1) (hup zP 1 (by simp [uP, hE]) hE)
              · have hA : upArg p0 a1 x2 = false := by
                  have y1 : (decide (p0.e ≠ 0) && decide (a1 ≠ 0)) = false := by
                    rw [Bool.and_eq_false_iff]
                    rcases Classical.em (a1 = 0) with h | h
                    · exact .inr (by simp [h])
                    · exact .inl (by have : p0.e = 0 := Classical.byContradiction fun h' => hee ⟨h, h'⟩; simp [this])
                  have y2 : (decide (0 < p0.hs.length) && decide (0 < x2.length)) = false := by
                    rw [Bool.and_eq_false_iff]
                    rcases Classical.em (0 < p0.hs.length) with h | h
                    · exact .inr (by rw [decide_eq_false_iff_not]; exact fun h' => hh ⟨h, h'⟩)
                    · exact .inl (by rw [decide_eq_false_iff_not]; exact h)
                  rw [upArg, hr, y1, y2]; rfl
                have hM : (p0.hs ++ x2).length ≤ 1000 := by rw [List.length_append]; exact hl
                have key : ∀ r, rightP (upQ p0 a1 x2) = r → (∀ A c w, Row w A ((p0.setE (p0.e + a1)).setH (p0.hs ++ x2)).hs.length ((p0.setE (p0.e + a1)).setH (p0.hs ++ x2)).hs → Calls Try.prog 10 #[.agg (((p0.setE (p0.e + a1)).setH (p0.hs ++ x2)).fd A c).cells.toArray] w fun e w' => e = .returned (.bool r) ∧ Below w.heap.size w w') := fun r hr A c w h => rright_p (upQ p0 a1 x2) hp0 hN A c r hr w h
                cases hq2 : rightP (upQ p0 a1 x2) with
                | true =>
                  have hE : upErr p0 a1 x2 = 0 := by rw [upErr, hA, hq2]; rfl
                  have hu := hup ((p0.setE (p0.e + a1)).setH (p0.hs ++ x2)) 0 (by rw [uP, hE]; rfl) hE
                  by_cases h0 : a1 = 0
                  · by_cases h1 : 0 < x2.length
                    · exact ups_01true p0 A0 c0 hp0 hc0 a1 A2 c2 x2 w hrow hrow2 hfew m2 b1 b2 hrr (by simp [h0]) (posI h1) (negI fun h => hh ⟨h, h1⟩) _ _ hu rfl hM hpe (key true hq2)
                    · exact ups_00true p0 A0 c0 hp0 hc0 a1 A2 c2 x2 w hrow hrow2 hfew m2 b1 b2 hrr (by simp [h0]) (negI h1) _ _ hu rfl hM hpe (key true hq2)
                  · by_cases h1 : 0 < x2.length
                    · exact ups_11true p0 A0 c0 hp0 hc0 a1 A2 c2 x2 w hrow hrow2 hfew m2 b1 b2 hrr (by simp [h0]) (by have : p0.e = 0 := Classical.byContradiction fun h => hee ⟨h0, h⟩; simp [this]) (posI h1) (negI fun h => hh ⟨h, h1⟩) _ _ hu rfl hM hpe (key true hq2)
                    · exact ups_10true p0 A0 c0 hp0 hc0 a1 A2 c2 x2 w hrow hrow2 hfew m2 b1 b2 hrr (by simp [h0]) (by have : p0.e = 0 := Classical.byContradiction fun h => hee ⟨h0, h⟩; simp [this]) (negI h1) _ _ hu rfl hM hpe (key true hq2)
                | false =>
                  have hE : upErr p0 a1 x2 = 4 := by rw [upErr, hA, hq2]; rfl
                  have hu := hup zP 4 (by rw [uP, hE]; rfl) hE
                  by_cases h0 : a1 = 0
                  · by_cases h1 : 0 < x2.length
                    · exact ups_01false p0 A0 c0 hp0 hc0 a1 A2 c2 x2 w hrow hrow2 hfew m2 b1 b2 hrr (by simp [h0]) (posI h1) (negI fun h => hh ⟨h, h1⟩) _ _ hu rfl hM hpe (key false hq2)
                    · exact ups_00false p0 A0 c0 hp0 hc0 a1 A2 c2 x2 w hrow hrow2 hfew m2 b1 b2 hrr (by simp [h0]) (negI h1) _ _ hu rfl hM hpe (key false hq2)
                  · by_cases h1 : 0 < x2.length
                    · exact ups_11false p0 A0 c0 hp0 hc0 a1 A2 c2 x2 w hrow hrow2 hfew m2 b1 b2 hrr (by simp [h0]) (by have : p0.e = 0 := Classical.byContradiction fun h => hee ⟨h0, h⟩; simp [this]) (posI h1) (negI fun h => hh ⟨h, h1⟩) _ _ hu rfl hM hpe (key false hq2)
                    · exact ups_10false p0 A0 c0 hp0 hc0 a1 A2 c2 x2 w hrow hrow2 hfew m2 b1 b2 hrr (by simp [h0]) (by have : p0.e = 0 := Classical.byContradiction fun h => hee ⟨h0, h⟩; simp [this]) (negI h1) _ _ hu rfl hM hpe (key false hq2)

set_option maxRecDepth 100000 in
theorem lifted (os : Os) (started : os.Started) (H : Type) (enc : TypeId × Value → H) :
    ReturnsInHanded {} Try.checked os 4 .any (Rows.wireUpsSpec.pre6 enc Try.prog Try.f4 Rows.wireUpsRow.domain false) (Rows.wireUpsSpec.post enc Try.prog Try.f4 false true false false) := by
  refine returnsInHanded_of_change (C := Try.checked) own started (by kernel_rfl) Try.func4
    (ChangeSpec.witness6 (enc := enc) (C := Try.checked) false ⟨#[], #[.agg (zP.fd none 0).cells.toArray, .int .i64 0, .slice none 0 0], []⟩ 12 (by kernel_rfl) (by kernel_rfl) (by kernel_rfl) (by kernel_rfl)) ?_
  intro W base args ds gs before hval0 hW hcnd _
  have hval : ∀ (j : Nat) t v, Try.f4.params[j]? = some t → args[j]? = some v → Value.okWide Try.prog W .any base t v := hval0
  have hW' := hW
  obtain ⟨p, q, hA0, hV, rfl, hfz, hnd⟩ := hW
  have hA : DataW.TrodAll enc Try.prog W 0 (fun _ => true) true Try.f4.params.toList args.toList ds p := hA0
  rw [Try.params4] at hA hval
  obtain ⟨v0, vs0, d0, ds0, q0, r0, hargs, rfl, rfl, h0, t0⟩ := trodAll_cons hA
  obtain ⟨v1, vs1, d1, ds1, q1, r1, rfl, rfl, rfl, h1, t1⟩ := trodAll_cons t0
  obtain ⟨v2, vs2, d2, ds2, q2, r2, rfl, rfl, rfl, h2, t2⟩ := trodAll_cons t1
  obtain ⟨rfl, rfl, rfl⟩ := trodAll_nil t2
  obtain rfl : args = #[v0, v1, v2] := by cases args; simp_all
  obtain ⟨rfl, rfl⟩ := trodVars_none hV
  have k0 := h0
  have lt0 : ∀ x ∈ q0, x.block < W.heap.size := by obtain ⟨m, hm⟩ := k0; exact DataW.trod_lt m _ _ _ hm
  obtain ⟨p0, A0, c0, rfl, hp0, hd0, hc0, hw0⟩ := open_f (hval 0 33 v0 rfl rfl) h0
  have k1 := h1
  have lt1 : ∀ x ∈ q1, x.block < W.heap.size := by obtain ⟨m, hm⟩ := k1; exact DataW.trod_lt m _ _ _ hm
  obtain ⟨a1, rfl, rfl, rfl, w1⟩ := open_int Try.underlying3 (hval 1 3 v1 rfl rfl) h1
  have k2 := h2
  have lt2 : ∀ x ∈ q2, x.block < W.heap.size := by obtain ⟨m, hm⟩ := k2; exact DataW.trod_lt m _ _ _ hm
  obtain ⟨A2, n2, c2, x2, rfl, hd2⟩ := open_holds (hval 2 31 v2 rfl rfl) h2
  clear hA0 hval0
  refine (walk W p0 A0 c0 hp0 hd0 hc0 hw0 a1 w1 A2 n2 c2 x2 hd2).mono fun e W' ⟨he, bel⟩ => ?_
  subst he
  exact ⟨_, rfl, _, _, _, [], _, [], hW', trodAll_mk1 (shut_bool Try.underlying4 _), (trodAll_cons_mk (Below.trod laidOut (by kernel_rfl) (of_decide_eq_true (by kernel_rfl)) k0 bel lt0) (trodAll_cons_mk (Below.trod laidOut (by kernel_rfl) (of_decide_eq_true (by kernel_rfl)) k1 bel lt1) (trodAll_cons_mk (Below.trod laidOut (by kernel_rfl) (of_decide_eq_true (by kernel_rfl)) k2 bel lt2) trodAll_mk0))), rfl, bel.frame _, fun h => by cases h⟩

theorem over : Rows.wireUpsRow.holds Try.pinned (OpenSpec.ofChange Rows.wireUpsSpec) :=
  OpenClaim.holds_of_wide 4 Try.f4 rfl rfl rfl rfl rfl rfl rfl ⟨rfl, rfl, rfl, rfl, rfl⟩ rfl rfl rfl rfl rfl (by kernel_rfl) Try.func4 (by kernel_rfl)
    (of_decide_eq_true (by kernel_rfl)) (by unfold Func.isWrapper; first | (rw [if_pos (by decide +kernel)]; kernel_rfl) | (rw [if_neg (by decide +kernel)]; exact ⟨rfl, rfl⟩))
    (fun os started H enc _ => lifted os started H enc)

theorem proved : Rows.WireUpsSaid := over
#print axioms proved
end Go.Proofs.Ytofngihdnjgmeaa.wireUps
