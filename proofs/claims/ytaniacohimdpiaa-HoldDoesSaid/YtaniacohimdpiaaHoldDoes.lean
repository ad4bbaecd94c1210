/- What comes of reserving, ending and expiring, of any holds, is the document's; they are left as they were. No condition. -/
import Derived.Test.YtaniacohimdpiaaHoDoc
import Derived.WalkKit
import Derived.ProofKit
import Derived.OpenShut
import Derived.ChangeOld
import Derived.Below
namespace Go.Proofs.Ytaniacohimdpiaa.holdDoes
open Go.ChangeShapes Go.WideShapes Go.ChangeAt Go.RowKit
set_option linter.unusedVariables false

theorem own : ownKnob Try.prog.godebug = none := by kernel_rfl
theorem laidOut : laidOutB Try.prog = true := by kernel_rfl

theorem open_cap {H : Type} {enc : TypeId × Value → H} {W : World} {b : Nat} {sp : Nat → Bool} {held : Bool} {A : Option Addr} {n c : Nat} {d : DataW H} {p : List MemPlace}
    (h : DataW.Trod enc Try.prog W b sp held 22 (.slice A n c) d p) : n ≤ c := by
  obtain ⟨fuel, hf⟩ := h
  rcases Deep.open_slice Try.underlying22 hf with ⟨hcs, _⟩ | ⟨a, len, cap, m, k, DD, Pl, hcs, _, hl, _⟩
  · simp [Value.cells] at hcs
    omega
  · simp [Value.cells] at hcs
    omega
theorem same_eq (A B : Option Addr) (n c m d : Nat) (xs ys : List Ho) (r : Bool) (hr : sameL xs ys = r) (w : World) (hd : Row w A n xs) (hf : Row w B m ys) :
    Calls Try.prog 25 #[.slice A n c, .slice B m d] w fun e w' => e = .returned (.bool r) ∧ Below w.heap.size w w' := by subst hr; exact same_any A B n c m d xs ys w hd hf
theorem rreserve_row (A : Option Addr) (n c : Nat) (hs : List Ho) (k a d : Int) (w : World) (hd : Row w A n hs) (hc : n ≤ c) (N E : Int) (R : List Ho) (r : Nat) (hN : resN hs k a d = N) (hE : resE hs k a d = E) (hR : resL hs k a d = R) (hr : R.length = r) :
    Calls Try.prog 20 #[.slice A n c, .int .i64 k, .int .i64 a, .int .i64 d] w fun e w' => ∃ A1 c1, e = .returned (.tuple #[.slice A1 r c1, .int .i64 N, .int .i64 E]) ∧ Row w' A1 r R ∧ Below w.heap.size w w' := by
  subst hN; subst hE; subst hR; subst hr
  refine (rreserve_any A n c hs k a d w hd hc).mono fun e w' ⟨v, he, ho, hb⟩ => ?_
  have hl := resL_len (l := hs) (k := k) (a := a) (d := d)
  obtain ⟨A1, c1, rfl, hrow⟩ := ho.told (by omega)
  exact ⟨A1, c1, he, hrow, hb⟩
theorem rend_row (A : Option Addr) (n c : Nat) (hs : List Ho) (k q st : Int) (w : World) (hd : Row w A n hs) (N E : Int) (R : List Ho) (r : Nat) (hN : endA hs k q st = N) (hE : endE hs k q st = E) (hR : endL hs k q st = R) (hr : R.length = r) :
    Calls Try.prog 22 #[.slice A n c, .int .i64 k, .int .i64 q, .int .i64 st] w fun e w' => ∃ A1 c1, e = .returned (.tuple #[.slice A1 r c1, .int .i64 N, .int .i64 E]) ∧ Row w' A1 r R ∧ Below w.heap.size w w' := by
  subst hN; subst hE; subst hR; subst hr
  refine (rend_any A n c hs k q st w hd).mono fun e w' ⟨v, he, ho, hb⟩ => ?_
  have hl := endL_len (l := hs) (k := k) (n := q) (st := st)
  obtain ⟨A1, c1, rfl, hrow⟩ := ho.told (by have h1 := hd.1; have h2 := hd.2.1; omega)
  exact ⟨A1, c1, he, hrow, hb⟩
theorem rexpire_row (A : Option Addr) (n c : Nat) (hs : List Ho) (k now : Int) (w : World) (hd : Row w A n hs) (N : Int) (R : List Ho) (hN : expN hs k now = N) (hR : expL hs k now = R) :
    Calls Try.prog 24 #[.slice A n c, .int .i64 k, .int .i64 now] w fun e w' => ∃ A1 c1, e = .returned (.tuple #[.slice A1 n c1, .int .i64 N]) ∧ Row w' A1 n R ∧ Below w.heap.size w w' := by
  subst hN; subst hR
  refine (rexpire_any A n c hs k now w hd).mono fun e w' ⟨v, he, ho, hb⟩ => ?_
  have hl := expL_len hs k now
  have h1 := hd.1
  have h2 := hd.2.1
  obtain ⟨A1, c1, rfl, hrow⟩ := ho.told (by omega)
  rw [hl, h1] at he hrow
  exact ⟨A1, c1, he, hrow, hb⟩
/-- A copy beside what it is of. -/
theorem KeepH.law {w u : World} {v : Value} {A : Option Addr} {n : Nat} {hs : List Ho} (h : KeepH w [] v ([] ++ hs) u) (hd : Row w A n hs) : ∃ Ax cx, v = .slice Ax n cx ∧ LawS w [] [(Ax, n, hs), (A, n, hs)] u := by
  have ho : Own u w.heap.size v hs := h.own
  obtain ⟨Ax, cx, rfl, hr⟩ := ho.told (by have h1 := hd.1; have h2 := hd.2.1; omega)
  have hl := hd.1
  rw [hl] at hr
  refine ⟨Ax, cx, by rw [hl], h.keep, fun x hx => ?_⟩
  simp only [List.mem_cons, List.not_mem_nil, or_false] at hx
  rcases hx with rfl | rfl
  · exact hr
  · exact hd.below h.keep.bel (Nat.le_refl _)

set_option maxRecDepth 100000 in
set_option maxHeartbeats 4000000 in
theorem walk (w : World) (A0 : Option Addr) (n0 c0 : Nat) (x0 : List Ho) (hd0 : Came w A0 n0 x0) (hc0 : n0 ≤ c0) (a1 : Int) (w1 : (Lit.int .i64 a1).wf = true) (a2 : Int) (w2 : (Lit.int .i64 a2).wf = true) (a3 : Int) (w3 : (Lit.int .i64 a3).wf = true) :
    Calls Try.prog 4 #[.slice A0 n0 c0, .int .i64 a1, .int .i64 a2, .int .i64 a3] w fun e w' => e = .returned (.bool true) ∧ Below w.heap.size w w' := by
  by_cases h40 : n0 ≤ 40
  · have hrow := hd0.row (by omega)
    have HFEW := Lib.hid (few1 (A := A0) (c := c0) h40)
    have HD := Lib.hid hrow; have HNB := Lib.hid h40; have HCAP := Lib.hid hc0
    have HK := Lib.hid (LawS.start (w := w) (rows := [(A0, n0, x0)]) (by simpa using hrow))
    clear hd0 hrow h40 hc0
    obtain ⟨N1, hN1⟩ : ∃ z, resN x0 a1 a2 a3 = z := ⟨_, rfl⟩
    obtain ⟨E1, hE1⟩ : ∃ z, resE x0 a1 a2 a3 = z := ⟨_, rfl⟩
    obtain ⟨R1, hR1⟩ : ∃ z, resL x0 a1 a2 a3 = z := ⟨_, rfl⟩
    obtain ⟨r1, hr1⟩ : ∃ z, R1.length = z := ⟨_, rfl⟩
    obtain ⟨N2, hN2⟩ : ∃ z, endA x0 a1 a2 a3 = z := ⟨_, rfl⟩
    obtain ⟨E2, hE2⟩ : ∃ z, endE x0 a1 a2 a3 = z := ⟨_, rfl⟩
    obtain ⟨R2, hR2⟩ : ∃ z, endL x0 a1 a2 a3 = z := ⟨_, rfl⟩
    obtain ⟨r2, hr2⟩ : ∃ z, R2.length = z := ⟨_, rfl⟩
    obtain ⟨N3, hN3⟩ : ∃ z, expN x0 a1 a3 = z := ⟨_, rfl⟩
    obtain ⟨R3, hR3⟩ : ∃ z, expL x0 a1 a3 = z := ⟨_, rfl⟩
    have HN1 := Lib.hid hN1; have HE1 := Lib.hid hE1; have HR1 := Lib.hid hR1; have Hr1 := Lib.hid hr1
    have HN2 := Lib.hid hN2; have HE2 := Lib.hid hE2; have HR2 := Lib.hid hR2; have Hr2 := Lib.hid hr2
    have HN3 := Lib.hid hN3; have HR3 := Lib.hid hR3
    clear hN1 hE1 hR1 hr1 hN2 hE2 hR2 hr2 hN3 hR3
    go_enter Try.func4, Try.ntmps4
    go_wp2_with (first
      | (with_reducible refine many_one HK.out rfl _ rfl rfl ?_; intro bq u hk hm; have HM := Lib.hid hm; clear hm; clear HK; have HK := Lib.hid hk; clear hk)
      | (go_at_call 10; (with_reducible refine (few_one _ _ _ _ _ HFEW.out _ HM.out).mono ?_); rintro e u ⟨rfl, rfl⟩)
      | (with_reducible refine build_none HK.out.keep rfl rfl ?_; intro v1 u hk; clear HK; have HK := Lib.hid hk; clear hk)
      | (refine app_hos HK.out rfl _ _ rfl rfl _ _ _ x0 rfl (HD.out.below HK.out.keep.bel (Nat.le_refl _)) (by have := HNB.out; simp; omega) ?_; intro v2 u hk0; obtain ⟨Ax, cx, rfl, hk⟩ := KeepH.law hk0 HD.out; clear hk0; clear HK; have HK := Lib.hid hk; clear hk)
      | (go_at_call 19; (with_reducible refine (reserve_row _ _ _ _ _ _ _ _ (HK.out.get 0 rfl) N1 E1 R1 r1 HN1.out HE1.out HR1.out Hr1.out).mono ?_); rintro e u ⟨Aa, ca, rfl, hr, hb⟩; have hk := HK.out.add hb hr; clear hr hb; clear HK; have HK := Lib.hid hk; clear hk)
      | (go_at_call 20; (with_reducible refine (rreserve_row _ _ _ _ _ _ _ _ (HK.out.get 2 rfl) HCAP.out N1 E1 R1 r1 HN1.out HE1.out HR1.out Hr1.out).mono ?_); rintro e u ⟨Ab, cb, rfl, hr, hb⟩; have hk := HK.out.add hb hr; clear hr hb; clear HK; have HK := Lib.hid hk; clear hk)
      | (go_at_call 21; (with_reducible refine (end_row _ _ _ _ _ _ _ _ (HK.out.get 2 rfl) N2 E2 R2 r2 HN2.out HE2.out HR2.out Hr2.out).mono ?_); rintro e u ⟨Ac, cc, rfl, hr, hb⟩; have hk := HK.out.add hb hr; clear hr hb; clear HK; have HK := Lib.hid hk; clear hk)
      | (go_at_call 22; (with_reducible refine (rend_row _ _ _ _ _ _ _ _ (HK.out.get 4 rfl) N2 E2 R2 r2 HN2.out HE2.out HR2.out Hr2.out).mono ?_); rintro e u ⟨Ad, cd, rfl, hr, hb⟩; have hk := HK.out.add hb hr; clear hr hb; clear HK; have HK := Lib.hid hk; clear hk)
      | (go_at_call 23; (with_reducible refine (expire_row _ _ _ _ _ _ _ (HK.out.get 4 rfl) N3 R3 HN3.out HR3.out).mono ?_); rintro e u ⟨Ay, cy, rfl, hr, hb⟩; have hk := HK.out.add hb hr; clear hr hb; clear HK; have HK := Lib.hid hk; clear hk)
      | (go_at_call 24; (with_reducible refine (rexpire_row _ _ _ _ _ _ _ (HK.out.get 6 rfl) N3 R3 HN3.out HR3.out).mono ?_); rintro e u ⟨Az, cz, rfl, hr, hb⟩; have hk := HK.out.add hb hr; clear hr hb; clear HK; have HK := Lib.hid hk; clear hk)
      | (go_at_call 25; (with_reducible refine (same_eq _ _ _ _ _ _ _ _ _ (same_refl R1) _ (HK.out.get 5 rfl) (HK.out.get 4 rfl)).mono ?_); rintro e u ⟨rfl, hb⟩; have hk := HK.out.call hb; clear hb; clear HK; have HK := Lib.hid hk; clear hk)
      | (go_at_call 25; (with_reducible refine (same_eq _ _ _ _ _ _ _ _ _ (same_refl R2) _ (HK.out.get 3 rfl) (HK.out.get 2 rfl)).mono ?_); rintro e u ⟨rfl, hb⟩; have hk := HK.out.call hb; clear hb; clear HK; have HK := Lib.hid hk; clear hk)
      | (go_at_call 25; (with_reducible refine (same_eq _ _ _ _ _ _ _ _ _ (same_refl R3) _ (HK.out.get 1 rfl) (HK.out.get 0 rfl)).mono ?_); rintro e u ⟨rfl, hb⟩; have hk := HK.out.call hb; clear hb; clear HK; have HK := Lib.hid hk; clear hk)
      | (go_at_call 25; (with_reducible refine (same_eq _ _ _ _ _ _ _ _ _ (same_refl x0) _ (HK.out.get 6 rfl) (HK.out.get 7 rfl)).mono ?_); rintro e u ⟨rfl, hb⟩; have hk := HK.out.call hb; clear hb; clear HK; have HK := Lib.hid hk; clear hk)
      | (go_at_call 11; (with_reducible refine (awake_any _).mono ?_); rintro e u ⟨rfl, hb⟩; have hk := HK.out.call hb; clear hb; clear HK; have HK := Lib.hid hk; clear hk))
    go_ret
    exact ⟨rfl, HK.out.bel⟩
  · have HFEW := Lib.hid (few1n (A := A0) (c := c0) h40)
    have HK := Lib.hid (LawS.start (w := w) (rows := []) (by simp))
    clear hd0 h40 hc0
    go_enter Try.func4, Try.ntmps4
    go_wp2_with (first
      | (with_reducible refine many_one HK.out rfl _ rfl rfl ?_; intro bq u hk hm; have HM := Lib.hid hm; clear hm; clear HK; have HK := Lib.hid hk; clear hk)
      | (go_at_call 10; (with_reducible refine (few_one _ _ _ _ _ HFEW.out _ HM.out).mono ?_); rintro e u ⟨rfl, rfl⟩)
      | (go_at_call 11; (with_reducible refine (awake_any _).mono ?_); rintro e u ⟨rfl, hb⟩; have hk := HK.out.call hb; clear hb; clear HK; have HK := Lib.hid hk; clear hk))
    go_ret
    exact ⟨rfl, HK.out.bel⟩

set_option maxRecDepth 100000 in
theorem lifted (os : Os) (started : os.Started) (H : Type) (enc : TypeId × Value → H) :
    ReturnsInHanded {} Try.checked os 4 .any (Rows.holdDoesSpec.pre6 enc Try.prog Try.f4 Rows.holdDoesRow.domain false) (Rows.holdDoesSpec.post enc Try.prog Try.f4 false true false false) := by
  refine returnsInHanded_of_change (C := Try.checked) own started (by kernel_rfl) Try.func4
    (ChangeSpec.witness6 (enc := enc) (C := Try.checked) false ⟨#[], #[.slice none 0 0, .int .i64 0, .int .i64 0, .int .i64 0], []⟩ 12 (by kernel_rfl) (by kernel_rfl) (by kernel_rfl) (by kernel_rfl)) ?_
  intro W base args ds gs before hval0 hW hcnd _
  have hval : ∀ (j : Nat) t v, Try.f4.params[j]? = some t → args[j]? = some v → Value.okWide Try.prog W .any base t v := hval0
  have hW' := hW
  obtain ⟨p, q, hA0, hV, rfl, hfz, hnd⟩ := hW
  have hA : DataW.TrodAll enc Try.prog W 0 (fun _ => true) true Try.f4.params.toList args.toList ds p := hA0
  rw [Try.params4] at hA hval
  obtain ⟨v0, vs0, d0, ds0, p0, q0, hargs, rfl, rfl, h0, r0⟩ := trodAll_cons hA
  obtain ⟨v1, vs1, d1, ds1, p1, q1, rfl, rfl, rfl, h1, r1⟩ := trodAll_cons r0
  obtain ⟨v2, vs2, d2, ds2, p2, q2, rfl, rfl, rfl, h2, r2⟩ := trodAll_cons r1
  obtain ⟨v3, vs3, d3, ds3, p3, q3, rfl, rfl, rfl, h3, r3⟩ := trodAll_cons r2
  obtain ⟨rfl, rfl, rfl⟩ := trodAll_nil r3
  obtain rfl : args = #[v0, v1, v2, v3] := by cases args; simp_all
  obtain ⟨rfl, rfl⟩ := trodVars_none hV
  have k0 := h0
  have lt0 : ∀ x ∈ p0, x.block < W.heap.size := by obtain ⟨m, hm⟩ := k0; exact DataW.trod_lt m _ _ _ hm
  obtain ⟨A0, n0, c0, x0, rfl, hd0⟩ := open_holds (hval 0 22 v0 rfl rfl) h0
  have hc0 := open_cap k0
  have k1 := h1
  have lt1 : ∀ x ∈ p1, x.block < W.heap.size := by obtain ⟨m, hm⟩ := k1; exact DataW.trod_lt m _ _ _ hm
  obtain ⟨a1, rfl, rfl, rfl, w1⟩ := open_int Try.underlying3 (hval 1 3 v1 rfl rfl) h1
  have k2 := h2
  have lt2 : ∀ x ∈ p2, x.block < W.heap.size := by obtain ⟨m, hm⟩ := k2; exact DataW.trod_lt m _ _ _ hm
  obtain ⟨a2, rfl, rfl, rfl, w2⟩ := open_int Try.underlying3 (hval 2 3 v2 rfl rfl) h2
  have k3 := h3
  have lt3 : ∀ x ∈ p3, x.block < W.heap.size := by obtain ⟨m, hm⟩ := k3; exact DataW.trod_lt m _ _ _ hm
  obtain ⟨a3, rfl, rfl, rfl, w3⟩ := open_int Try.underlying3 (hval 3 3 v3 rfl rfl) h3
  clear hA0 hval0
  refine (walk W A0 n0 c0 x0 hd0 hc0 a1 w1 a2 w2 a3 w3).mono fun e W' ⟨he, bel⟩ => ?_
  subst he
  exact ⟨_, rfl, _, _, _, [], _, [], hW', trodAll_mk1 (shut_bool Try.underlying4 _), (trodAll_cons_mk (Below.trod laidOut (by kernel_rfl) (of_decide_eq_true (by kernel_rfl)) k0 bel lt0) (trodAll_cons_mk (Below.trod laidOut (by kernel_rfl) (of_decide_eq_true (by kernel_rfl)) k1 bel lt1) (trodAll_cons_mk (Below.trod laidOut (by kernel_rfl) (of_decide_eq_true (by kernel_rfl)) k2 bel lt2) (trodAll_cons_mk (Below.trod laidOut (by kernel_rfl) (of_decide_eq_true (by kernel_rfl)) k3 bel lt3) trodAll_mk0)))), rfl, bel.frame _, fun h => by cases h⟩

theorem over : Rows.holdDoesRow.holds Try.pinned (OpenSpec.ofChange Rows.holdDoesSpec) :=
  OpenClaim.holds_of_wide 4 Try.f4 rfl rfl rfl rfl rfl rfl rfl ⟨rfl, rfl, rfl, rfl, rfl⟩ rfl rfl rfl rfl rfl (by kernel_rfl) Try.func4 (by kernel_rfl)
    (of_decide_eq_true (by kernel_rfl)) (by unfold Func.isWrapper; first | (rw [if_pos (by decide +kernel)]; kernel_rfl) | (rw [if_neg (by decide +kernel)]; exact ⟨rfl, rfl⟩))
    (fun os started H enc _ => lifted os started H enc)

theorem proved : Rows.HoldDoesSaid := over
#print axioms proved
end Go.Proofs.Ytaniacohimdpiaa.holdDoes
