/- What is not Held stays as it is, whatever is done: no end, no expiring changes it. No condition. -/
import Derived.Test.YtaniacohimdpiaaHoLaw
import Derived.WalkKit
import Derived.ProofKit
import Derived.OpenShut
import Derived.ChangeOld
import Derived.Below
namespace Go.Proofs.Ytaniacohimdpiaa.holdStays
open Go.ChangeShapes Go.WideShapes Go.ChangeAt Go.RowKit
set_option linter.unusedVariables false

theorem own : ownKnob Try.prog.godebug = none := by kernel_rfl
theorem laidOut : laidOutB Try.prog = true := by kernel_rfl

/-- What is not Held stays. -/
theorem fnd_goes {l : List Ho} {k n now : Int} {h : Ho} (hr : rightsL l = true) (hf : fnd l k n = some h) (hs : ¬ h.s = 1) : fnd (expL l k now) k n = some h := by
  have e : expL l k now = l.map (goes k now) := by rw [expL, hr]; rfl
  rw [e]
  unfold fnd at *
  rw [List.find?_map]
  have : (nm k n) ∘ (goes k now) = nm k n := by
    funext x
    have := goes_name k now x
    simp only [Function.comp, nm, this.1, this.2.1]
  rw [this, hf]
  rw [Option.map_some, goes, if_neg (by simp [overB, hs])]

set_option maxRecDepth 100000 in
set_option maxHeartbeats 4000000 in
theorem walk (w : World) (A0 : Option Addr) (n0 c0 : Nat) (x0 : List Ho) (hd0 : Came w A0 n0 x0) (a1 : Int) (w1 : (Lit.int .i64 a1).wf = true) (a2 : Int) (w2 : (Lit.int .i64 a2).wf = true) (a3 : Int) (w3 : (Lit.int .i64 a3).wf = true) :
    Calls Try.prog 7 #[.slice A0 n0 c0, .int .i64 a1, .int .i64 a2, .int .i64 a3] w fun e w' => e = .returned (.bool true) ∧ Below w.heap.size w w' := by
  have HA := Lib.hid (awake_any)
  by_cases h40 : n0 ≤ 40
  · have hrow := hd0.row (by omega)
    have HFEW := Lib.hid (few1 (A := A0) (c := c0) h40)
    have HK := Lib.hid (LawS.start (w := w) (rows := [(A0, n0, x0)]) (by simpa using hrow))
    clear hd0 hrow h40
    cases hrt : rightsL x0 with
    | false =>
      have HRT := Lib.hid hrt; clear hrt
      go_enter Try.func7, Try.ntmps7
      go_wp2_with (first
        | (with_reducible refine many_one HK.out rfl _ rfl rfl ?_; intro bq u hk hm; have HM := Lib.hid hm; clear hm; clear HK; have HK := Lib.hid hk; clear hk)
        | (go_at_call 10; (with_reducible refine (few_one _ _ _ _ _ HFEW.out _ HM.out).mono ?_); rintro e u ⟨rfl, rfl⟩)
        | (go_at_call 16; (with_reducible refine (rrights_eq _ _ _ _ _ HRT.out _ (HK.out.get 0 rfl)).mono ?_); rintro e u ⟨rfl, hb⟩; have hk := HK.out.call hb; clear hb; clear HK; have HK := Lib.hid hk; clear hk)
        | (go_at_call 11; (with_reducible refine (awake_any _).mono ?_); rintro e u ⟨rfl, hb⟩; have hk := HK.out.call hb; clear hb; clear HK; have HK := Lib.hid hk; clear hk))
      go_ret
      exact ⟨rfl, HK.out.bel⟩
    | true =>
      have HRT := Lib.hid hrt
      cases hf : fnd x0 a1 a2 with
      | none =>
        have HFH := Lib.hid (show fndH x0 a1 a2 = z5 by rw [fndH, hf]; rfl)
        have HFB := Lib.hid (show fndB x0 a1 a2 = false by rw [fndB, hf]; rfl)
        clear hf hrt
        go_enter Try.func7, Try.ntmps7
        go_wp2_with (first
          | (with_reducible refine many_one HK.out rfl _ rfl rfl ?_; intro bq u hk hm; have HM := Lib.hid hm; clear hm; clear HK; have HK := Lib.hid hk; clear hk)
          | (go_at_call 10; (with_reducible refine (few_one _ _ _ _ _ HFEW.out _ HM.out).mono ?_); rintro e u ⟨rfl, rfl⟩)
          | (go_at_call 16; (with_reducible refine (rrights_eq _ _ _ _ _ HRT.out _ (HK.out.get 0 rfl)).mono ?_); rintro e u ⟨rfl, hb⟩; have hk := HK.out.call hb; clear hb; clear HK; have HK := Lib.hid hk; clear hk)
          | (go_at_call 14; (with_reducible refine (find_eq _ _ _ _ _ _ z5 _ HFH.out HFB.out _ (HK.out.get 0 rfl)).mono ?_); rintro e u ⟨rfl, hb⟩; have hk := HK.out.call hb; clear hb; clear HK; have HK := Lib.hid hk; clear hk)
          | (with_reducible refine alloc_zero HK.out.keep 5 h_zero rfl rfl ?_; intro bh u hn0 hk0 hb; have hk := HK.out.alloc hn0 hk0 hb; clear hn0 hk0 hb; clear HK; have HK := Lib.hid hk; clear hk)
          | (with_reducible refine store_all HK.out.keep 0 5 h_info rfl rfl _ _ rfl rfl rfl rfl (Ho.len _) (zer_length 5) ?_; intro u hk0 hs0; simp only [List.set_cons_zero] at hk0; have hk := HK.out.store hk0 hs0; clear hk0 hs0; clear HK; have HK := Lib.hid hk; clear hk)
          | (go_at_call 11; (with_reducible refine (awake_any _).mono ?_); rintro e u ⟨rfl, hb⟩; have hk := HK.out.call hb; clear hb; clear HK; have HK := Lib.hid hk; clear hk))
        go_ret
        exact ⟨rfl, HK.out.bel⟩
      | some h =>
        have HFH := Lib.hid (show fndH x0 a1 a2 = h by rw [fndH, hf]; rfl)
        have HFB := Lib.hid (show fndB x0 a1 a2 = true by rw [fndB, hf]; rfl)
        by_cases hs : h.s = 1
        · have q1 : (h.s == 1) = true := by simp [hs]
          clear hf hrt hs
          go_enter Try.func7, Try.ntmps7
          go_wp2_with (first
            | (with_reducible refine many_one HK.out rfl _ rfl rfl ?_; intro bq u hk hm; have HM := Lib.hid hm; clear hm; clear HK; have HK := Lib.hid hk; clear hk)
            | (go_at_call 10; (with_reducible refine (few_one _ _ _ _ _ HFEW.out _ HM.out).mono ?_); rintro e u ⟨rfl, rfl⟩)
            | (go_at_call 16; (with_reducible refine (rrights_eq _ _ _ _ _ HRT.out _ (HK.out.get 0 rfl)).mono ?_); rintro e u ⟨rfl, hb⟩; have hk := HK.out.call hb; clear hb; clear HK; have HK := Lib.hid hk; clear hk)
            | (go_at_call 14; (with_reducible refine (find_eq _ _ _ _ _ _ h _ HFH.out HFB.out _ (HK.out.get 0 rfl)).mono ?_); rintro e u ⟨rfl, hb⟩; have hk := HK.out.call hb; clear hb; clear HK; have HK := Lib.hid hk; clear hk)
            | (with_reducible refine alloc_zero HK.out.keep 5 h_zero rfl rfl ?_; intro bh u hn0 hk0 hb; have hk := HK.out.alloc hn0 hk0 hb; clear hn0 hk0 hb; clear HK; have HK := Lib.hid hk; clear hk)
            | (with_reducible refine store_all HK.out.keep 0 5 h_info rfl rfl _ _ rfl rfl rfl rfl (Ho.len _) (zer_length 5) ?_; intro u hk0 hs0; simp only [List.set_cons_zero] at hk0; have hk := HK.out.store hk0 hs0; clear hk0 hs0; clear HK; have HK := Lib.hid hk; clear hk)
            | (with_reducible refine load_val HK.out.keep 0 rfl _ rfl rfl rfl (Ho.g0 _) (Ho.p0 _) ?_)
            | (with_reducible refine load_val HK.out.keep 0 rfl _ rfl rfl rfl (Ho.g1 _) (Ho.p1 _) ?_)
            | (with_reducible refine load_val HK.out.keep 0 rfl _ rfl rfl rfl (Ho.g2 _) (Ho.p2 _) ?_)
            | (with_reducible refine load_val HK.out.keep 0 rfl _ rfl rfl rfl (Ho.g3 _) (Ho.p3 _) ?_)
            | (with_reducible refine load_val HK.out.keep 0 rfl _ rfl rfl rfl (Ho.g4 _) (Ho.p4 _) ?_)
            | (with_reducible refine load_val_want HK.out.keep 0 _ rfl rfl rfl rfl (Ho.g0 _) (Ho.p0 _) ?_)
            | (with_reducible refine load_val_want HK.out.keep 0 _ rfl rfl rfl rfl (Ho.g1 _) (Ho.p1 _) ?_)
            | (with_reducible refine load_val_want HK.out.keep 0 _ rfl rfl rfl rfl (Ho.g2 _) (Ho.p2 _) ?_)
            | (with_reducible refine load_val_want HK.out.keep 0 _ rfl rfl rfl rfl (Ho.g3 _) (Ho.p3 _) ?_)
            | (with_reducible refine load_val_want HK.out.keep 0 _ rfl rfl rfl rfl (Ho.g4 _) (Ho.p4 _) ?_)
            | (with_reducible refine eql_want q1 _ _ _ rfl rfl rfl rfl ?_)
            | (go_at_call 11; (with_reducible refine (awake_any _).mono ?_); rintro e u ⟨rfl, hb⟩; have hk := HK.out.call hb; clear hb; clear HK; have HK := Lib.hid hk; clear hk))
          go_ret
          exact ⟨rfl, HK.out.bel⟩
        · have q1 : (h.s == 1) = false := by simp [hs]
          obtain ⟨e1, e2, e3⟩ := end_state (st := 2) (by rw [hrt]; rfl) hf hs
          obtain ⟨f1, f2, f3⟩ := end_state (st := 3) (by rw [hrt]; rfl) hf hs
          have HE2 := Lib.hid e1; have HA2 := Lib.hid e2; have HL2 := Lib.hid e3
          have HE3 := Lib.hid f1; have HA3 := Lib.hid f2; have HL3 := Lib.hid f3
          have hfx := fnd_goes (now := a3) hrt hf hs
          obtain ⟨N, hN⟩ : ∃ N, expN x0 a1 a3 = N := ⟨_, rfl⟩
          obtain ⟨R, hR⟩ : ∃ R, expL x0 a1 a3 = R := ⟨_, rfl⟩
          rw [hR] at hfx
          have HXN := Lib.hid hN; have HXL := Lib.hid hR
          have HGH := Lib.hid (show fndH R a1 a2 = h by rw [fndH, hfx]; rfl)
          have HGB := Lib.hid (show fndB R a1 a2 = true by rw [fndB, hfx]; rfl)
          clear e1 e2 e3 f1 f2 f3 hfx hN hR hf hrt hs
          have hq := eql_ho h h
          rw [Ho.same] at hq
          have hge := h_guard
          go_enter Try.func7, Try.ntmps7
          go_wp2_with (first
            | (with_reducible refine many_one HK.out rfl _ rfl rfl ?_; intro bq u hk hm; have HM := Lib.hid hm; clear hm; clear HK; have HK := Lib.hid hk; clear hk)
            | (go_at_call 10; (with_reducible refine (few_one _ _ _ _ _ HFEW.out _ HM.out).mono ?_); rintro e u ⟨rfl, rfl⟩)
            | (go_at_call 16; (with_reducible refine (rrights_eq _ _ _ _ _ HRT.out _ (HK.out.get 0 rfl)).mono ?_); rintro e u ⟨rfl, hb⟩; have hk := HK.out.call hb; clear hb; clear HK; have HK := Lib.hid hk; clear hk)
            | (go_at_call 14; (with_reducible refine (find_eq _ _ _ _ _ _ h _ HFH.out HFB.out _ (HK.out.get 0 rfl)).mono ?_); rintro e u ⟨rfl, hb⟩; have hk := HK.out.call hb; clear hb; clear HK; have HK := Lib.hid hk; clear hk)
            | (with_reducible refine alloc_zero HK.out.keep 5 h_zero rfl rfl ?_; intro bh u hn0 hk0 hb; have hk := HK.out.alloc hn0 hk0 hb; clear hn0 hk0 hb; clear HK; have HK := Lib.hid hk; clear hk)
            | (with_reducible refine store_all HK.out.keep 0 5 h_info rfl rfl _ _ rfl rfl rfl rfl (Ho.len _) (zer_length 5) ?_; intro u hk0 hs0; simp only [List.set_cons_zero] at hk0; have hk := HK.out.store hk0 hs0; clear hk0 hs0; clear HK; have HK := Lib.hid hk; clear hk)
            | (with_reducible refine load_val HK.out.keep 0 rfl _ rfl rfl rfl (Ho.g0 _) (Ho.p0 _) ?_)
            | (with_reducible refine load_val HK.out.keep 0 rfl _ rfl rfl rfl (Ho.g1 _) (Ho.p1 _) ?_)
            | (with_reducible refine load_val HK.out.keep 0 rfl _ rfl rfl rfl (Ho.g2 _) (Ho.p2 _) ?_)
            | (with_reducible refine load_val HK.out.keep 0 rfl _ rfl rfl rfl (Ho.g3 _) (Ho.p3 _) ?_)
            | (with_reducible refine load_val HK.out.keep 0 rfl _ rfl rfl rfl (Ho.g4 _) (Ho.p4 _) ?_)
            | (with_reducible refine load_val_want HK.out.keep 0 _ rfl rfl rfl rfl (Ho.g0 _) (Ho.p0 _) ?_)
            | (with_reducible refine load_val_want HK.out.keep 0 _ rfl rfl rfl rfl (Ho.g1 _) (Ho.p1 _) ?_)
            | (with_reducible refine load_val_want HK.out.keep 0 _ rfl rfl rfl rfl (Ho.g2 _) (Ho.p2 _) ?_)
            | (with_reducible refine load_val_want HK.out.keep 0 _ rfl rfl rfl rfl (Ho.g3 _) (Ho.p3 _) ?_)
            | (with_reducible refine load_val_want HK.out.keep 0 _ rfl rfl rfl rfl (Ho.g4 _) (Ho.p4 _) ?_)
            | (with_reducible refine eql_want q1 _ _ _ rfl rfl rfl rfl ?_)
            | (go_at_call 21; (with_reducible refine (end_row _ _ _ _ _ _ 2 _ (HK.out.get 0 rfl) 0 12 [] 0 HA2.out HE2.out HL2.out rfl).mono ?_); rintro e u ⟨Aq, cq, rfl, hr, hb⟩; have hk := HK.out.add hb hr; clear hr hb; clear HK; have HK := Lib.hid hk; clear hk)
            | (go_at_call 21; (with_reducible refine (end_row _ _ _ _ _ _ 3 _ (HK.out.get 1 rfl) 0 12 [] 0 HA3.out HE3.out HL3.out rfl).mono ?_); rintro e u ⟨Aq, cq, rfl, hr, hb⟩; have hk := HK.out.add hb hr; clear hr hb; clear HK; have HK := Lib.hid hk; clear hk)
            | (go_at_call 23; (with_reducible refine (expire_row _ _ _ _ _ a3 _ (HK.out.get 2 rfl) _ _ HXN.out HXL.out).mono ?_); rintro e u ⟨Ax, cx, rfl, hr, hb⟩; have hk := HK.out.add hb hr; clear hr hb; clear HK; have HK := Lib.hid hk; clear hk)
            | (go_at_call 14; (with_reducible refine (find_eq _ _ _ _ _ _ h _ HGH.out HGB.out _ (HK.out.get 0 rfl)).mono ?_); rintro e u ⟨rfl, hb⟩; have hk := HK.out.call hb; clear hb; clear HK; have HK := Lib.hid hk; clear hk)
            | (refine load_all_want HK.out.keep 0 5 Try.underlying26 rfl h_info _ rfl rfl rfl rfl (Ho.len _) ?_)
            | (refine load_all_want HK.out.keep 1 5 Try.underlying26 rfl h_info _ rfl rfl rfl rfl (Ho.len _) ?_)
            | (go_at_call 11; (with_reducible refine (awake_any _).mono ?_); rintro e u ⟨rfl, hb⟩; have hk := HK.out.call hb; clear hb; clear HK; have HK := Lib.hid hk; clear hk))
          go_ret
          exact ⟨rfl, HK.out.bel⟩
  · have HFEW := Lib.hid (few1n (A := A0) (c := c0) h40)
    have HK := Lib.hid (LawS.start (w := w) (rows := []) (by simp))
    clear hd0 h40
    go_enter Try.func7, Try.ntmps7
    go_wp2_with (first
      | (with_reducible refine many_one HK.out rfl _ rfl rfl ?_; intro bq u hk hm; have HM := Lib.hid hm; clear hm; clear HK; have HK := Lib.hid hk; clear hk)
      | (go_at_call 10; (with_reducible refine (few_one _ _ _ _ _ HFEW.out _ HM.out).mono ?_); rintro e u ⟨rfl, rfl⟩)
      | (go_at_call 11; (with_reducible refine (awake_any _).mono ?_); rintro e u ⟨rfl, hb⟩; have hk := HK.out.call hb; clear hb; clear HK; have HK := Lib.hid hk; clear hk))
    go_ret
    exact ⟨rfl, HK.out.bel⟩

set_option maxRecDepth 100000 in
theorem lifted (os : Os) (started : os.Started) (H : Type) (enc : TypeId × Value → H) :
    ReturnsInHanded {} Try.checked os 7 .any (Rows.holdStaysSpec.pre6 enc Try.prog Try.f7 Rows.holdStaysRow.domain false) (Rows.holdStaysSpec.post enc Try.prog Try.f7 false true false false) := by
  refine returnsInHanded_of_change (C := Try.checked) own started (by kernel_rfl) Try.func7
    (ChangeSpec.witness6 (enc := enc) (C := Try.checked) false ⟨#[], #[.slice none 0 0, .int .i64 0, .int .i64 0, .int .i64 0], []⟩ 12 (by kernel_rfl) (by kernel_rfl) (by kernel_rfl) (by kernel_rfl)) ?_
  intro W base args ds gs before hval0 hW hcnd _
  have hval : ∀ (j : Nat) t v, Try.f7.params[j]? = some t → args[j]? = some v → Value.okWide Try.prog W .any base t v := hval0
  have hW' := hW
  obtain ⟨p, q, hA0, hV, rfl, hfz, hnd⟩ := hW
  have hA : DataW.TrodAll enc Try.prog W 0 (fun _ => true) true Try.f7.params.toList args.toList ds p := hA0
  rw [Try.params7] at hA hval
  obtain ⟨v0, vs0, d0, ds0, p0, q0, hargs, rfl, rfl, h0, r0⟩ := trodAll_cons hA
  obtain ⟨v1, vs1, d1, ds1, p1, q1, rfl, rfl, rfl, h1, r1⟩ := trodAll_cons r0
  obtain ⟨v2, vs2, d2, ds2, p2, q2, rfl, rfl, rfl, h2, r2⟩ := trodAll_cons r1
  obtain ⟨v3, vs3, d3, ds3, p3, q3, rfl, rfl, rfl, h3, r3⟩ := trodAll_cons r2
  obtain ⟨rfl, rfl, rfl⟩ := trodAll_nil r3
  obtain rfl : args = #[v0, v1, v2, v3] := by cases args; simp_all
  obtain ⟨rfl, rfl⟩ := trodVars_none hV
  have k0 := h0
  have lt0 : ∀ x ∈ p0, x.block < W.heap.size := by obtain ⟨m, hm⟩ := k0; exact DataW.trod_lt m _ _ _ hm
  obtain ⟨A0, n0, c0, x0, rfl, hd0⟩ := open_holds (hval 0 22 v0 rfl rfl) h0
  have k1 := h1
  have lt1 : ∀ x ∈ p1, x.block < W.heap.size := by obtain ⟨m, hm⟩ := k1; exact DataW.trod_lt m _ _ _ hm
  obtain ⟨a1, rfl, rfl, rfl, w1⟩ := open_int Try.underlying3 (hval 1 3 v1 rfl rfl) h1
  have k2 := h2
  have lt2 : ∀ x ∈ p2, x.block < W.heap.size := by obtain ⟨m, hm⟩ := k2; exact DataW.trod_lt m _ _ _ hm
  obtain ⟨a2, rfl, rfl, rfl, w2⟩ := open_int Try.underlying3 (hval 2 3 v2 rfl rfl) h2
  have k3 := h3
  have lt3 : ∀ x ∈ p3, x.block < W.heap.size := by obtain ⟨m, hm⟩ := k3; exact DataW.trod_lt m _ _ _ hm
  obtain ⟨a3, rfl, rfl, rfl, w3⟩ := open_int Try.underlying3 (hval 3 3 v3 rfl rfl) h3
  clear hA0 hval0
  refine (walk W A0 n0 c0 x0 hd0 a1 w1 a2 w2 a3 w3).mono fun e W' ⟨he, bel⟩ => ?_
  subst he
  exact ⟨_, rfl, _, _, _, [], _, [], hW', trodAll_mk1 (shut_bool Try.underlying4 _), (trodAll_cons_mk (Below.trod laidOut (by kernel_rfl) (of_decide_eq_true (by kernel_rfl)) k0 bel lt0) (trodAll_cons_mk (Below.trod laidOut (by kernel_rfl) (of_decide_eq_true (by kernel_rfl)) k1 bel lt1) (trodAll_cons_mk (Below.trod laidOut (by kernel_rfl) (of_decide_eq_true (by kernel_rfl)) k2 bel lt2) (trodAll_cons_mk (Below.trod laidOut (by kernel_rfl) (of_decide_eq_true (by kernel_rfl)) k3 bel lt3) trodAll_mk0)))), rfl, bel.frame _, fun h => by cases h⟩

theorem over : Rows.holdStaysRow.holds Try.pinned (OpenSpec.ofChange Rows.holdStaysSpec) :=
  OpenClaim.holds_of_wide 7 Try.f7 rfl rfl rfl rfl rfl rfl rfl ⟨rfl, rfl, rfl, rfl, rfl⟩ rfl rfl rfl rfl rfl (by kernel_rfl) Try.func7 (by kernel_rfl)
    (of_decide_eq_true (by kernel_rfl)) (by unfold Func.isWrapper; first | (rw [if_pos (by decide +kernel)]; kernel_rfl) | (rw [if_neg (by decide +kernel)]; exact ⟨rfl, rfl⟩))
    (fun os started H enc _ => lifted os started H enc)

theorem proved : Rows.HoldStaysSaid := over
#print axioms proved
end Go.Proofs.Ytaniacohimdpiaa.holdStays
