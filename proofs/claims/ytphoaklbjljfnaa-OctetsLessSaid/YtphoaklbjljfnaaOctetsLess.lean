/- For every two ints usufructlaw08.OctetsLess returns true, and each argument reads as before. No condition. -/
import Derived.Test.YtphoaklbjljfnaaOz
import Derived.WalkKit
import Derived.ProofKit
import Derived.OpenShut
import Derived.ShutString
import Derived.ChangeOld
import Derived.Below
namespace Go.Proofs.Ytphoaklbjljfnaa.octetsLess
open Go.ChangeShapes Go.WideShapes Go.ChangeAt Go.RowKit
set_option linter.unusedVariables false

theorem own : ownKnob Try.prog.godebug = none := by kernel_rfl
theorem laidOut : laidOutB Try.prog = true := by kernel_rfl

theorem less_facts {a b : Int} (h0 : 0 ≤ a) (h1 : a ≤ b) (h2 : b ≤ 1099511627776) : (enc (fold a)).length ≤ (enc (fold b)).length ∧ (enc (fold (-a))).length ≤ (enc (fold a)).length ∧ 2 * b < ((128 ^ (enc (fold b)).length : Nat) : Int) := by
  have ha := fold_pos (isB_iff.2 ⟨by omega, by omega⟩ : isB a = true) (by omega)
  have hb := fold_pos (isB_iff.2 ⟨by omega, by omega⟩ : isB b = true) (by omega)
  refine ⟨enc_mono (by omega), enc_mono ?_, ?_⟩
  · rcases (show 0 < a ∨ a ≤ 0 by omega) with h | h
    · have := fold_neg (isB_iff.2 ⟨by omega, by omega⟩ : isB (-a) = true) (by omega)
      omega
    · rw [show -a = a by omega]; omega
  · have := enc_lt_pow (fold b)
    omega
theorem pow6 {m : Nat} (h : m < 6) : 128 ^ m ≤ 34359738368 := by
  have : m = 0 ∨ m = 1 ∨ m = 2 ∨ m = 3 ∨ m = 4 ∨ m = 5 := by omega
  rcases this with rfl | rfl | rfl | rfl | rfl | rfl <;> decide
theorem pow7 {m : Nat} (h : m ≤ 6) : 128 ^ m ≤ 4398046511104 := by
  rcases Nat.lt_or_ge m 6 with h1 | h1
  · have := pow6 h1; omega
  · rw [show m = 6 by omega]; decide

set_option maxRecDepth 100000 in
set_option maxHeartbeats 4000000 in
theorem walk (w : World) (a0 : Int) (w0 : (Lit.int .i64 a0).wf = true) (a1 : Int) (w1 : (Lit.int .i64 a1).wf = true) :
    Calls Try.prog 7 #[.int .i64 a0, .int .i64 a1] w fun e w' => e = .returned (.bool true) ∧ Below w.heap.size w w' := by
  have HB := Lib.hid (Below.refl w.heap.size w)
  by_cases h0 : a0 < 0
  · have i0 : decide (a0 < 0) = true := by simp [h0]
    go_enter Try.func7, Try.ntmps7
    go_wp2_with (first
      | (go_at_call 8; (with_reducible refine (awake_any _).mono ?_); rintro e u ⟨rfl, hb⟩; have hb := HB.out.trans (hb.mono HB.out.size); clear HB; have HB := Lib.hid hb; clear hb))
    go_ret
    exact ⟨rfl, HB.out⟩
  have i0 : decide (a0 < 0) = false := by simp; omega
  by_cases h1 : a1 < a0
  · have i1 : decide (a1 < a0) = true := by simp [h1]
    go_enter Try.func7, Try.ntmps7
    go_wp2_with (first
      | (go_at_call 8; (with_reducible refine (awake_any _).mono ?_); rintro e u ⟨rfl, hb⟩; have hb := HB.out.trans (hb.mono HB.out.size); clear HB; have HB := Lib.hid hb; clear hb))
    go_ret
    exact ⟨rfl, HB.out⟩
  have i1 : decide (a1 < a0) = false := by simp; omega
  by_cases h2 : 1099511627776 < a1
  · have i2 : decide (1099511627776 < a1) = true := by simp [h2]
    go_enter Try.func7, Try.ntmps7
    go_wp2_with (first
      | (go_at_call 8; (with_reducible refine (awake_any _).mono ?_); rintro e u ⟨rfl, hb⟩; have hb := HB.out.trans (hb.mono HB.out.size); clear HB; have HB := Lib.hid hb; clear hb))
    go_ret
    exact ⟨rfl, HB.out⟩
  have i2 : decide (1099511627776 < a1) = false := by simp; omega
  obtain ⟨f1, f2, f3⟩ := less_facts (by omega) (by omega : a0 ≤ a1) (by omega)
  have x1 := fun w => number_any none 0 0 [] a0 rfl (by decide) w (.inl rfl)
  have x2 := fun w => number_any none 0 0 [] a1 rfl (by decide) w (.inl rfl)
  have x3 := fun w => number_any none 0 0 [] (-a0) rfl (by decide) w (.inl rfl)
  have e6 := enc_six (fold_lt a1)
  simp only [List.nil_append] at x1 x2 x3
  have HP := Lib.hid f3; clear f3
  generalize enc (fold a0) = L0 at *
  generalize enc (fold a1) = L1 at *
  generalize enc (fold (-a0)) = L2 at *
  have g1 : (L0.length : Int) ≤ (L1.length : Int) := by omega
  have g2 : (L2.length : Int) ≤ (L0.length : Int) := by omega
  go_enter Try.func7, Try.ntmps7
  go_wp2_with (first
    | (go_at_call 9; (with_reducible refine (x1 _).mono ?_); rintro e u ⟨A1, c1, ⟨rfl, _⟩, hk⟩; have hb := HB.out.trans (hk.bel.mono HB.out.size); clear HB hk; have HB := Lib.hid hb; clear hb)
    | (go_at_call 9; (with_reducible refine (x2 _).mono ?_); rintro e u ⟨A2, c2, ⟨rfl, _⟩, hk⟩; have hb := HB.out.trans (hk.bel.mono HB.out.size); clear HB hk; have HB := Lib.hid hb; clear hb)
    | (go_at_call 9; (with_reducible refine (x3 _).mono ?_); rintro e u ⟨A3, c3, ⟨rfl, _⟩, hk⟩; have hb := HB.out.trans (hk.bel.mono HB.out.size); clear HB hk; have HB := Lib.hid hb; clear hb))
  go_loopw [8, 30] (fun v i wr => ∃ m : Nat, m ≤ L1.length ∧ i = .int .i64 m ∧ v = .int .i64 ((128 ^ m : Nat) : Int) ∧ Below w.heap.size w wr) (fun _ i _ => L1.length - (intOf i).toNat)
  case atStart => exact ⟨0, by omega, rfl, rfl, HB.out⟩
  case round =>
    obtain ⟨m, hm, rfl, rfl, hb⟩ := hrel
    clear HB
    have HB := Lib.hid hb; clear hb
    by_cases hlt : m < L1.length
    · have hM := pow6 (show m < 6 by omega)
      have hM2 : 128 ^ (m + 1) = 128 ^ m * 128 := Nat.pow_succ ..
      generalize 128 ^ m = M at hM hM2
      have HM := Lib.hid hM2; clear hM2
      have hM3 : (M : Int) ≤ 34359738368 := by omega
      have j3 : (m : Int) < (L1.length : Int) := by omega
      go_wp2
      go_roundw
      case rel => exact ⟨m + 1, by omega, by go_num, by rw [HM.out]; go_num, HB.out⟩
      case measure => simp [intOf]; omega
    · obtain rfl : m = L1.length := by omega
      have hp := HP.out
      have hq := pow7 (show L1.length ≤ 6 by omega)
      generalize 128 ^ L1.length = M at hp hq ⊢
      clear HP
      have hp2 : 2 * a1 < (M : Int) := by omega
      go_wp2_with (first
        | (go_at_call 8; (with_reducible refine (awake_any _).mono ?_); rintro e u ⟨rfl, hb⟩; have hb := HB.out.trans (hb.mono HB.out.size); clear HB; have HB := Lib.hid hb; clear hb))
      go_ret
      exact ⟨rfl, HB.out⟩

set_option maxRecDepth 100000 in
theorem lifted (os : Os) (started : os.Started) (H : Type) (enc : TypeId × Value → H) :
    ReturnsInHanded {} Try.checked os 7 .any (Rows.octetsLessSpec.pre6 enc Try.prog Try.f7 Rows.octetsLessRow.domain false) (Rows.octetsLessSpec.post enc Try.prog Try.f7 false true false false) := by
  refine returnsInHanded_of_change (C := Try.checked) own started (by kernel_rfl) Try.func7
    (ChangeSpec.witness6 (enc := enc) (C := Try.checked) false ⟨#[], #[.int .i64 0, .int .i64 0], []⟩ 12 (by kernel_rfl) (by kernel_rfl) (by kernel_rfl) (by kernel_rfl)) ?_
  intro W base args ds gs before hval0 hW hcnd _
  have hval : ∀ (j : Nat) t v, Try.f7.params[j]? = some t → args[j]? = some v → Value.okWide Try.prog W .any base t v := hval0
  have hW' := hW
  obtain ⟨p, q, hA0, hV, rfl, hfz, hnd⟩ := hW
  have hA : DataW.TrodAll enc Try.prog W 0 (fun _ => true) true Try.f7.params.toList args.toList ds p := hA0
  rw [Try.params7] at hA hval
  obtain ⟨v0, vs0, d0, ds0, q0, r0, hargs, rfl, rfl, h0, t0⟩ := trodAll_cons hA
  obtain ⟨v1, vs1, d1, ds1, q1, r1, rfl, rfl, rfl, h1, t1⟩ := trodAll_cons t0
  obtain ⟨rfl, rfl, rfl⟩ := trodAll_nil t1
  obtain rfl : args = #[v0, v1] := by cases args; simp_all
  obtain ⟨rfl, rfl⟩ := trodVars_none hV
  have k0 := h0
  have lt0 : ∀ x ∈ q0, x.block < W.heap.size := by obtain ⟨m, hm⟩ := k0; exact DataW.trod_lt m _ _ _ hm
  obtain ⟨a0, rfl, rfl, rfl, w0⟩ := open_int Try.underlying3 (hval 0 3 v0 rfl rfl) h0
  have k1 := h1
  have lt1 : ∀ x ∈ q1, x.block < W.heap.size := by obtain ⟨m, hm⟩ := k1; exact DataW.trod_lt m _ _ _ hm
  obtain ⟨a1, rfl, rfl, rfl, w1⟩ := open_int Try.underlying3 (hval 1 3 v1 rfl rfl) h1
  clear hA0 hval0
  refine (walk W a0 w0 a1 w1).mono fun e W' ⟨he, bel⟩ => ?_
  subst he
  exact ⟨_, rfl, _, _, _, [], _, [], hW', trodAll_mk1 (shut_bool Try.underlying4 _), (trodAll_cons_mk (Below.trod laidOut (by kernel_rfl) (of_decide_eq_true (by kernel_rfl)) k0 bel lt0) (trodAll_cons_mk (Below.trod laidOut (by kernel_rfl) (of_decide_eq_true (by kernel_rfl)) k1 bel lt1) trodAll_mk0)), rfl, bel.frame _, fun h => by cases h⟩

theorem over : Rows.octetsLessRow.holds Try.pinned (OpenSpec.ofChange Rows.octetsLessSpec) :=
  OpenClaim.holds_of_wide 7 Try.f7 rfl rfl rfl rfl rfl rfl rfl ⟨rfl, rfl, rfl, rfl, rfl⟩ rfl rfl rfl rfl rfl (by kernel_rfl) Try.func7 (by kernel_rfl)
    (of_decide_eq_true (by kernel_rfl)) (by unfold Func.isWrapper; first | (rw [if_pos (by decide +kernel)]; kernel_rfl) | (rw [if_neg (by decide +kernel)]; exact ⟨rfl, rfl⟩))
    (fun os started H enc _ => lifted os started H enc)

theorem proved : Rows.OctetsLessSaid := over
#print axioms proved
end Go.Proofs.Ytphoaklbjljfnaa.octetsLess
