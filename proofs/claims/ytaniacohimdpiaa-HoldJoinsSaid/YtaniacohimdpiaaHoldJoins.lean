/- The join of any holds, or why there is none, is the document's. No condition. -/
import Derived.Test.YtaniacohimdpiaaHoRJoin
import Derived.Test.YtaniacohimdpiaaHoJL
import Derived.WalkKit
import Derived.ProofKit
import Derived.OpenShut
import Derived.ChangeOld
import Derived.Below
namespace Go.Proofs.Ytaniacohimdpiaa.holdJoins
open Go.ChangeShapes Go.WideShapes Go.ChangeAt Go.RowKit
set_option linter.unusedVariables false

theorem own : ownKnob Try.prog.godebug = none := by kernel_rfl
theorem laidOut : laidOutB Try.prog = true := by kernel_rfl

theorem same_eq (A B : Option Addr) (n c m d : Nat) (xs ys : List Ho) (r : Bool) (hr : sameL xs ys = r) (w : World) (hd : Row w A n xs) (hf : Row w B m ys) :
    Calls Try.prog 25 #[.slice A n c, .slice B m d] w fun e w' => e = .returned (.bool r) ∧ Below w.heap.size w w' := by subst hr; exact same_any A B n c m d xs ys w hd hf
theorem join_row (A B : Option Addr) (na ca nb cb : Nat) (xa xb : List Ho) (w : World) (hda : Row w A na xa) (hdb : Row w B nb xb) (E : Int) (R : List Ho) (r : Nat) (hE : joinE xa xb = E) (hR : joinL xa xb = R) (hr : R.length = r) :
    Calls Try.prog 26 #[.slice A na ca, .slice B nb cb] w fun e w' => ∃ A1 c1, e = .returned (.tuple #[.slice A1 r c1, .int .i64 E]) ∧ Row w' A1 r R ∧ Below w.heap.size w w' := by
  subst hE; subst hR; subst hr
  refine (join_any A B na ca nb cb xa xb w hda hdb).mono fun e w' ⟨v, he, ho, hb⟩ => ?_
  have hl := joinL_len xa xb
  obtain ⟨A1, c1, rfl, hrow⟩ := ho.told (by omega)
  exact ⟨A1, c1, he, hrow, hb⟩
theorem rjoin_row (A B : Option Addr) (na ca nb cb : Nat) (xa xb : List Ho) (w : World) (hda : Row w A na xa) (hdb : Row w B nb xb) (E : Int) (R : List Ho) (r : Nat) (hE : joinE xa xb = E) (hR : joinL xa xb = R) (hr : R.length = r) :
    Calls Try.prog 27 #[.slice A na ca, .slice B nb cb] w fun e w' => ∃ A1 c1, e = .returned (.tuple #[.slice A1 r c1, .int .i64 E]) ∧ Row w' A1 r R ∧ Below w.heap.size w w' := by
  subst hE; subst hR; subst hr
  refine (rjoin_any A B na ca nb cb xa xb w hda hdb).mono fun e w' ⟨v, he, ho, hb⟩ => ?_
  have hl := joinL_len xa xb
  obtain ⟨A1, c1, rfl, hrow⟩ := ho.told (by omega)
  exact ⟨A1, c1, he, hrow, hb⟩
theorem few2 {A B : Option Addr} {n m c d : Nat} (h : n ≤ 40 ∧ m ≤ 40) : fewB [(A, n, c), (B, m, d)] = true := by simp [fewB, h]
theorem few2n {A B : Option Addr} {n m c d : Nat} (h : ¬ (n ≤ 40 ∧ m ≤ 40)) : fewB [(A, n, c), (B, m, d)] = false := by
  simp [fewB]; omega

set_option maxRecDepth 100000 in
set_option maxHeartbeats 4000000 in
theorem walk (w : World) (A0 : Option Addr) (n0 c0 : Nat) (x0 : List Ho) (hd0 : Came w A0 n0 x0) (A1 : Option Addr) (n1 c1 : Nat) (x1 : List Ho) (hd1 : Came w A1 n1 x1) :
    Calls Try.prog 5 #[.slice A0 n0 c0, .slice A1 n1 c1] w fun e w' => e = .returned (.bool true) ∧ Below w.heap.size w w' := by
  by_cases h40 : n0 ≤ 40 ∧ n1 ≤ 40
  · have hrow := hd0.row (by omega)
    have hrow1 := hd1.row (by omega)
    have HFEW := Lib.hid (few2 (A := A0) (B := A1) (c := c0) (d := c1) h40)
    have HK := Lib.hid (LawS.start (w := w) (rows := [(A0, n0, x0), (A1, n1, x1)]) (by
      intro x hx
      simp only [List.mem_cons, List.not_mem_nil, or_false] at hx
      rcases hx with rfl | rfl
      · exact hrow
      · exact hrow1))
    clear hd0 hrow hd1 hrow1 h40
    obtain ⟨E, hE⟩ : ∃ z, joinE x0 x1 = z := ⟨_, rfl⟩
    obtain ⟨R, hR⟩ : ∃ z, joinL x0 x1 = z := ⟨_, rfl⟩
    obtain ⟨r, hr⟩ : ∃ z, R.length = z := ⟨_, rfl⟩
    have HE := Lib.hid hE; have HR := Lib.hid hR; have Hr := Lib.hid hr
    clear hE hR hr
    go_enter Try.func5, Try.ntmps5
    go_wp2_with (first
      | (with_reducible refine many_two HK.out rfl _ _ rfl rfl rfl ?_; intro bq u hk hm; have HM := Lib.hid hm; clear hm; clear HK; have HK := Lib.hid hk; clear hk)
      | (go_at_call 10; (with_reducible refine (few_two _ _ _ _ _ _ _ _ HFEW.out _ HM.out).mono ?_); rintro e u ⟨rfl, rfl⟩)
      | (go_at_call 26; (with_reducible refine (join_row _ _ _ _ _ _ _ _ _ (HK.out.get 0 rfl) (HK.out.get 1 rfl) E R r HE.out HR.out Hr.out).mono ?_); rintro e u ⟨Aj, cj, rfl, hr, hb⟩; have hk := HK.out.add hb hr; clear hr hb; clear HK; have HK := Lib.hid hk; clear hk)
      | (go_at_call 27; (with_reducible refine (rjoin_row _ _ _ _ _ _ _ _ _ (HK.out.get 1 rfl) (HK.out.get 2 rfl) E R r HE.out HR.out Hr.out).mono ?_); rintro e u ⟨Al, cl, rfl, hr, hb⟩; have hk := HK.out.add hb hr; clear hr hb; clear HK; have HK := Lib.hid hk; clear hk)
      | (go_at_call 25; (with_reducible refine (same_eq _ _ _ _ _ _ _ _ _ (same_refl R) _ (HK.out.get 1 rfl) (HK.out.get 0 rfl)).mono ?_); rintro e u ⟨rfl, hb⟩; have hk := HK.out.call hb; clear hb; clear HK; have HK := Lib.hid hk; clear hk)
      | (go_at_call 11; (with_reducible refine (awake_any _).mono ?_); rintro e u ⟨rfl, hb⟩; have hk := HK.out.call hb; clear hb; clear HK; have HK := Lib.hid hk; clear hk))
    go_ret
    exact ⟨rfl, HK.out.bel⟩
  · have HFEW := Lib.hid (few2n (A := A0) (B := A1) (c := c0) (d := c1) h40)
    have HK := Lib.hid (LawS.start (w := w) (rows := []) (by simp))
    clear hd0 hd1 h40
    go_enter Try.func5, Try.ntmps5
    go_wp2_with (first
      | (with_reducible refine many_two HK.out rfl _ _ rfl rfl rfl ?_; intro bq u hk hm; have HM := Lib.hid hm; clear hm; clear HK; have HK := Lib.hid hk; clear hk)
      | (go_at_call 10; (with_reducible refine (few_two _ _ _ _ _ _ _ _ HFEW.out _ HM.out).mono ?_); rintro e u ⟨rfl, rfl⟩)
      | (go_at_call 11; (with_reducible refine (awake_any _).mono ?_); rintro e u ⟨rfl, hb⟩; have hk := HK.out.call hb; clear hb; clear HK; have HK := Lib.hid hk; clear hk))
    go_ret
    exact ⟨rfl, HK.out.bel⟩

set_option maxRecDepth 100000 in
theorem lifted (os : Os) (started : os.Started) (H : Type) (enc : TypeId × Value → H) :
    ReturnsInHanded {} Try.checked os 5 .any (Rows.holdJoinsSpec.pre6 enc Try.prog Try.f5 Rows.holdJoinsRow.domain false) (Rows.holdJoinsSpec.post enc Try.prog Try.f5 false true false false) := by
  refine returnsInHanded_of_change (C := Try.checked) own started (by kernel_rfl) Try.func5
    (ChangeSpec.witness6 (enc := enc) (C := Try.checked) false ⟨#[], #[.slice none 0 0, .slice none 0 0], []⟩ 12 (by kernel_rfl) (by kernel_rfl) (by kernel_rfl) (by kernel_rfl)) ?_
  intro W base args ds gs before hval0 hW hcnd _
  have hval : ∀ (j : Nat) t v, Try.f5.params[j]? = some t → args[j]? = some v → Value.okWide Try.prog W .any base t v := hval0
  have hW' := hW
  obtain ⟨p, q, hA0, hV, rfl, hfz, hnd⟩ := hW
  have hA : DataW.TrodAll enc Try.prog W 0 (fun _ => true) true Try.f5.params.toList args.toList ds p := hA0
  rw [Try.params5] at hA hval
  obtain ⟨v0, vs0, d0, ds0, p0, q0, hargs, rfl, rfl, h0, r0⟩ := trodAll_cons hA
  obtain ⟨v1, vs1, d1, ds1, p1, q1, rfl, rfl, rfl, h1, r1⟩ := trodAll_cons r0
  obtain ⟨rfl, rfl, rfl⟩ := trodAll_nil r1
  obtain rfl : args = #[v0, v1] := by cases args; simp_all
  obtain ⟨rfl, rfl⟩ := trodVars_none hV
  have k0 := h0
  have lt0 : ∀ x ∈ p0, x.block < W.heap.size := by obtain ⟨m, hm⟩ := k0; exact DataW.trod_lt m _ _ _ hm
  obtain ⟨A0, n0, c0, x0, rfl, hd0⟩ := open_holds (hval 0 22 v0 rfl rfl) h0
  have k1 := h1
  have lt1 : ∀ x ∈ p1, x.block < W.heap.size := by obtain ⟨m, hm⟩ := k1; exact DataW.trod_lt m _ _ _ hm
  obtain ⟨A1, n1, c1, x1, rfl, hd1⟩ := open_holds (hval 1 22 v1 rfl rfl) h1
  clear hA0 hval0
  refine (walk W A0 n0 c0 x0 hd0 A1 n1 c1 x1 hd1).mono fun e W' ⟨he, bel⟩ => ?_
  subst he
  exact ⟨_, rfl, _, _, _, [], _, [], hW', trodAll_mk1 (shut_bool Try.underlying4 _), (trodAll_cons_mk (Below.trod laidOut (by kernel_rfl) (of_decide_eq_true (by kernel_rfl)) k0 bel lt0) (trodAll_cons_mk (Below.trod laidOut (by kernel_rfl) (of_decide_eq_true (by kernel_rfl)) k1 bel lt1) trodAll_mk0)), rfl, bel.frame _, fun h => by cases h⟩

theorem over : Rows.holdJoinsRow.holds Try.pinned (OpenSpec.ofChange Rows.holdJoinsSpec) :=
  OpenClaim.holds_of_wide 5 Try.f5 rfl rfl rfl rfl rfl rfl rfl ⟨rfl, rfl, rfl, rfl, rfl⟩ rfl rfl rfl rfl rfl (by kernel_rfl) Try.func5 (by kernel_rfl)
    (of_decide_eq_true (by kernel_rfl)) (by unfold Func.isWrapper; first | (rw [if_pos (by decide +kernel)]; kernel_rfl) | (rw [if_neg (by decide +kernel)]; exact ⟨rfl, rfl⟩))
    (fun os started H enc _ => lifted os started H enc)

theorem proved : Rows.HoldJoinsSaid := over
#print axioms proved
end Go.Proofs.Ytaniacohimdpiaa.holdJoins
