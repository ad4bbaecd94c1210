/- Joining hangs on no order, nor on how often; what is joined may be. No condition. -/
import Derived.Test.YtaniacohimdpiaaHoJL
import Derived.WalkKit
import Derived.ProofKit
import Derived.OpenShut
import Derived.ChangeOld
import Derived.Below
namespace Go.Proofs.Ytaniacohimdpiaa.holdLaws
open Go.ChangeShapes Go.WideShapes Go.ChangeAt Go.RowKit
set_option linter.unusedVariables false

theorem own : ownKnob Try.prog.godebug = none := by kernel_rfl
theorem laidOut : laidOutB Try.prog = true := by kernel_rfl

theorem same_eq (A B : Option Addr) (n c m d : Nat) (xs ys : List Ho) (r : Bool) (hr : sameL xs ys = r) (w : World) (hd : Row w A n xs) (hf : Row w B m ys) :
    Calls Try.prog 25 #[.slice A n c, .slice B m d] w fun e w' => e = .returned (.bool r) ∧ Below w.heap.size w w' := by subst hr; exact same_any A B n c m d xs ys w hd hf
theorem join_row (A B : Option Addr) (na ca nb cb : Nat) (xa xb : List Ho) (w : World) (hda : Row w A na xa) (hdb : Row w B nb xb) (E : Int) (R : List Ho) (r : Nat) (hE : joinE xa xb = E) (hR : joinL xa xb = R) (hr : R.length = r) :
    Calls Try.prog 26 #[.slice A na ca, .slice B nb cb] w fun e w' => ∃ A1 c1, e = .returned (.tuple #[.slice A1 r c1, .int .i64 E]) ∧ Row w' A1 r R ∧ Below w.heap.size w w' := by
  subst hE; subst hR; subst hr
  refine (join_any A B na ca nb cb xa xb w hda hdb).mono fun e w' ⟨v, he, ho, hb⟩ => ?_
  have hl := joinL_len xa xb
  obtain ⟨A1, c1, rfl, hrow⟩ := ho.told (by omega)
  exact ⟨A1, c1, he, hrow, hb⟩
theorem few3 {A B C : Option Addr} {n m p c d e : Nat} (h : n ≤ 40 ∧ m ≤ 40 ∧ p ≤ 40) : fewB [(A, n, c), (B, m, d), (C, p, e)] = true := by simp [fewB, h]
theorem few3n {A B C : Option Addr} {n m p c d e : Nat} (h : ¬ (n ≤ 40 ∧ m ≤ 40 ∧ p ≤ 40)) : fewB [(A, n, c), (B, m, d), (C, p, e)] = false := by
  simp [fewB]; omega

set_option maxRecDepth 100000 in
set_option maxHeartbeats 4000000 in
theorem walk (w : World) (A0 : Option Addr) (n0 c0 : Nat) (x0 : List Ho) (hd0 : Came w A0 n0 x0) (A1 : Option Addr) (n1 c1 : Nat) (x1 : List Ho) (hd1 : Came w A1 n1 x1) (A2 : Option Addr) (n2 c2 : Nat) (x2 : List Ho) (hd2 : Came w A2 n2 x2) :
    Calls Try.prog 6 #[.slice A0 n0 c0, .slice A1 n1 c1, .slice A2 n2 c2] w fun e w' => e = .returned (.bool true) ∧ Below w.heap.size w w' := by
  by_cases h40 : n0 ≤ 40 ∧ n1 ≤ 40 ∧ n2 ≤ 40
  · have hrow := hd0.row (by omega)
    have hrow1 := hd1.row (by omega)
    have hrow2 := hd2.row (by omega)
    have HFEW := Lib.hid (few3 (A := A0) (B := A1) (C := A2) (c := c0) (d := c1) (e := c2) h40)
    have HLA := Lib.hid hrow.1
    have HK := Lib.hid (LawS.start (w := w) (rows := [(A0, n0, x0), (A1, n1, x1), (A2, n2, x2)]) (by
      intro x hx
      simp only [List.mem_cons, List.not_mem_nil, or_false] at hx
      rcases hx with rfl | rfl | rfl
      · exact hrow
      · exact hrow1
      · exact hrow2))
    clear hd0 hrow hd1 hrow1 hd2 hrow2 h40
    have hcm := join_comm x0 x1
    cases hrt : rightsL x0 with
    | false =>
      have hb := (join_bad (a := x0) (b := x1) (by rw [hrt, Bool.false_and]))
      have hs := (join_bad (a := x0) (b := x0) (by rw [hrt, Bool.false_and]))
      have HE1 := Lib.hid hb.1; have HR1 := Lib.hid hb.2; have Hr1 := Lib.hid (show ([] : List Ho).length = 0 from rfl)
      have HE2 := Lib.hid (hcm.1.symm.trans hb.1); have HR2 := Lib.hid (hcm.2.symm.trans hb.2)
      have HE3 := Lib.hid hs.1; have HR3 := Lib.hid hs.2; have Hr3 := Hr1
      have HRT := Lib.hid hrt
      clear hb hs hcm hrt
      go_enter Try.func6, Try.ntmps6
      go_wp2_with (first
        | (with_reducible refine many_three HK.out rfl _ _ _ rfl rfl rfl rfl ?_; intro bq u hk hm; have HM := Lib.hid hm; clear hm; clear HK; have HK := Lib.hid hk; clear hk)
        | (go_at_call 10; (with_reducible refine (few_three _ _ _ _ _ _ _ _ _ _ _ HFEW.out _ HM.out).mono ?_); rintro e u ⟨rfl, rfl⟩)
        | (go_at_call 26; (with_reducible refine (join_row _ _ _ _ _ _ _ _ _ (HK.out.get 0 rfl) (HK.out.get 1 rfl) 1 [] 0 HE1.out HR1.out Hr1.out).mono ?_); rintro e u ⟨Aj, cj, rfl, hr, hb⟩; have hk := HK.out.add hb hr; clear hr hb; clear HK; have HK := Lib.hid hk; clear hk)
        | (go_at_call 26; (with_reducible refine (join_row _ _ _ _ _ _ _ _ _ (HK.out.get 2 rfl) (HK.out.get 1 rfl) 1 [] 0 HE2.out HR2.out Hr1.out).mono ?_); rintro e u ⟨Ak, ck, rfl, hr, hb⟩; have hk := HK.out.add hb hr; clear hr hb; clear HK; have HK := Lib.hid hk; clear hk)
        | (go_at_call 26; (with_reducible refine (join_row _ _ _ _ _ _ _ _ _ (HK.out.get 2 rfl) (HK.out.get 2 rfl) 1 [] 0 HE3.out HR3.out Hr3.out).mono ?_); rintro e u ⟨Ai, ci, rfl, hr, hb⟩; have hk := HK.out.add hb hr; clear hr hb; clear HK; have HK := Lib.hid hk; clear hk)
        | (go_at_call 25; (with_reducible refine (same_eq _ _ _ _ _ _ _ _ _ (same_refl []) _ (HK.out.get 2 rfl) (HK.out.get 1 rfl)).mono ?_); rintro e u ⟨rfl, hb⟩; have hk := HK.out.call hb; clear hb; clear HK; have HK := Lib.hid hk; clear hk)
        | (go_at_call 16; (with_reducible refine (rrights_eq _ _ _ _ _ HRT.out _ (HK.out.get 3 rfl)).mono ?_); rintro e u ⟨rfl, hb⟩; have hk := HK.out.call hb; clear hb; clear HK; have HK := Lib.hid hk; clear hk)
        | (go_at_call 11; (with_reducible refine (awake_any _).mono ?_); rintro e u ⟨rfl, hb⟩; have hk := HK.out.call hb; clear hb; clear HK; have HK := Lib.hid hk; clear hk))
      go_ret
      exact ⟨rfl, HK.out.bel⟩
    | true =>
      have hs := join_self hrt
      have HE3 := Lib.hid hs.1; have HR3 := Lib.hid hs.2; have Hr3 := HLA
      have HRT := Lib.hid hrt
      clear hs
      by_cases hE : joinE x0 x1 = 0
      · obtain ⟨R1, hR1⟩ : ∃ z, joinL x0 x1 = z := ⟨_, rfl⟩
        obtain ⟨r1, hr1⟩ : ∃ z, R1.length = z := ⟨_, rfl⟩
        have hrj := join_rights hE
        obtain ⟨has1, has2⟩ := join_assoc (c := x2) hE
        rw [hR1] at hrj has1 has2
        have HE1 := Lib.hid hE; have HR1 := Lib.hid hR1; have Hr1 := Lib.hid hr1
        have HE2 := Lib.hid (hcm.1.symm.trans hE); have HR2 := Lib.hid (hcm.2.symm.trans hR1)
        have HRJ := Lib.hid hrj
        clear hcm hR1 hr1 hrj hrt hE
        obtain ⟨E3, hE3⟩ : ∃ z, joinE R1 x2 = z := ⟨_, rfl⟩
        obtain ⟨R3, hR3⟩ : ∃ z, joinL R1 x2 = z := ⟨_, rfl⟩
        obtain ⟨r3, hr3⟩ : ∃ z, R3.length = z := ⟨_, rfl⟩
        rw [hE3] at has1 has2
        rw [hR3] at has2
        have HE4 := Lib.hid hE3; have HR4 := Lib.hid hR3; have Hr4 := Lib.hid hr3
        clear hE3 hR3 hr3
        by_cases hE4 : joinE x1 x2 = 0
        · obtain ⟨g1, g2⟩ := has2 hE4
          obtain ⟨R4, hR4⟩ : ∃ z, joinL x1 x2 = z := ⟨_, rfl⟩
          obtain ⟨r4, hr4⟩ : ∃ z, R4.length = z := ⟨_, rfl⟩
          rw [hR4] at g1 g2
          have HE5 := Lib.hid hE4; have HR5 := Lib.hid hR4; have Hr5 := Lib.hid hr4
          have HE6 := Lib.hid g1.symm; have HR6 := Lib.hid g2.symm
          clear has1 has2 hE4 g1 g2 hR4 hr4
          go_enter Try.func6, Try.ntmps6
          go_wp2_with (first
            | (with_reducible refine many_three HK.out rfl _ _ _ rfl rfl rfl rfl ?_; intro bq u hk hm; have HM := Lib.hid hm; clear hm; clear HK; have HK := Lib.hid hk; clear hk)
            | (go_at_call 10; (with_reducible refine (few_three _ _ _ _ _ _ _ _ _ _ _ HFEW.out _ HM.out).mono ?_); rintro e u ⟨rfl, rfl⟩)
            | (go_at_call 26; (with_reducible refine (join_row _ _ _ _ _ _ _ _ _ (HK.out.get 0 rfl) (HK.out.get 1 rfl) 0 R1 r1 HE1.out HR1.out Hr1.out).mono ?_); rintro e u ⟨Aj, cj, rfl, hr, hb⟩; have hk := HK.out.add hb hr; clear hr hb; clear HK; have HK := Lib.hid hk; clear hk)
            | (go_at_call 26; (with_reducible refine (join_row _ _ _ _ _ _ _ _ _ (HK.out.get 2 rfl) (HK.out.get 1 rfl) 0 R1 r1 HE2.out HR2.out Hr1.out).mono ?_); rintro e u ⟨Ak, ck, rfl, hr, hb⟩; have hk := HK.out.add hb hr; clear hr hb; clear HK; have HK := Lib.hid hk; clear hk)
            | (go_at_call 26; (with_reducible refine (join_row _ _ _ _ _ _ _ _ _ (HK.out.get 2 rfl) (HK.out.get 2 rfl) 0 x0 n0 HE3.out HR3.out Hr3.out).mono ?_); rintro e u ⟨Ai, ci, rfl, hr, hb⟩; have hk := HK.out.add hb hr; clear hr hb; clear HK; have HK := Lib.hid hk; clear hk)
            | (go_at_call 25; (with_reducible refine (same_eq _ _ _ _ _ _ _ _ _ (same_refl R1) _ (HK.out.get 2 rfl) (HK.out.get 1 rfl)).mono ?_); rintro e u ⟨rfl, hb⟩; have hk := HK.out.call hb; clear hb; clear HK; have HK := Lib.hid hk; clear hk)
            | (go_at_call 25; (with_reducible refine (same_eq _ _ _ _ _ _ _ _ _ (same_refl x0) _ (HK.out.get 0 rfl) (HK.out.get 3 rfl)).mono ?_); rintro e u ⟨rfl, hb⟩; have hk := HK.out.call hb; clear hb; clear HK; have HK := Lib.hid hk; clear hk)
            | (go_at_call 16; (with_reducible refine (rrights_eq _ _ _ _ _ HRT.out _ (HK.out.get 3 rfl)).mono ?_); rintro e u ⟨rfl, hb⟩; have hk := HK.out.call hb; clear hb; clear HK; have HK := Lib.hid hk; clear hk)
            | (go_at_call 26; (with_reducible refine (join_row _ _ _ _ _ _ _ _ _ (HK.out.get 2 rfl) (HK.out.get 5 rfl) E3 R3 r3 HE4.out HR4.out Hr4.out).mono ?_); rintro e u ⟨Ax, cx, rfl, hr, hb⟩; have hk := HK.out.add hb hr; clear hr hb; clear HK; have HK := Lib.hid hk; clear hk)
            | (go_at_call 26; (with_reducible refine (join_row _ _ _ _ _ _ _ _ _ (HK.out.get 5 rfl) (HK.out.get 6 rfl) 0 R4 r4 HE5.out HR5.out Hr5.out).mono ?_); rintro e u ⟨Ay, cy, rfl, hr, hb⟩; have hk := HK.out.add hb hr; clear hr hb; clear HK; have HK := Lib.hid hk; clear hk)
            | (go_at_call 26; (with_reducible refine (join_row _ _ _ _ _ _ _ _ _ (HK.out.get 5 rfl) (HK.out.get 0 rfl) E3 R3 r3 HE6.out HR6.out Hr4.out).mono ?_); rintro e u ⟨Az, cz, rfl, hr, hb⟩; have hk := HK.out.add hb hr; clear hr hb; clear HK; have HK := Lib.hid hk; clear hk)
            | (go_at_call 25; (with_reducible refine (same_eq _ _ _ _ _ _ _ _ _ (same_refl R3) _ (HK.out.get 2 rfl) (HK.out.get 0 rfl)).mono ?_); rintro e u ⟨rfl, hb⟩; have hk := HK.out.call hb; clear hb; clear HK; have HK := Lib.hid hk; clear hk)
            | (go_at_call 15; (with_reducible refine (rights_eq _ _ _ _ _ HRJ.out _ (HK.out.get 5 rfl)).mono ?_); rintro e u ⟨rfl, hb⟩; have hk := HK.out.call hb; clear hb; clear HK; have HK := Lib.hid hk; clear hk)
            | (go_at_call 11; (with_reducible refine (awake_any _).mono ?_); rintro e u ⟨rfl, hb⟩; have hk := HK.out.call hb; clear hb; clear HK; have HK := Lib.hid hk; clear hk))
          go_ret
          exact ⟨rfl, HK.out.bel⟩
        · have hne := has1 hE4
          obtain ⟨E4, hE4e⟩ : ∃ z, joinE x1 x2 = z := ⟨_, rfl⟩
          obtain ⟨R4, hR4⟩ : ∃ z, joinL x1 x2 = z := ⟨_, rfl⟩
          obtain ⟨r4, hr4⟩ : ∃ z, R4.length = z := ⟨_, rfl⟩
          rw [hE4e] at hE4
          have HE5 := Lib.hid hE4e; have HR5 := Lib.hid hR4; have Hr5 := Lib.hid hr4
          have q3e : (E3 != 0) = true := by simp [hne]
          have q4e : (E4 != 0) = true := by simp [hE4]
          clear has1 has2 hE4e hR4 hr4
          go_enter Try.func6, Try.ntmps6
          go_wp2_with (first
            | (with_reducible refine many_three HK.out rfl _ _ _ rfl rfl rfl rfl ?_; intro bq u hk hm; have HM := Lib.hid hm; clear hm; clear HK; have HK := Lib.hid hk; clear hk)
            | (go_at_call 10; (with_reducible refine (few_three _ _ _ _ _ _ _ _ _ _ _ HFEW.out _ HM.out).mono ?_); rintro e u ⟨rfl, rfl⟩)
            | (go_at_call 26; (with_reducible refine (join_row _ _ _ _ _ _ _ _ _ (HK.out.get 0 rfl) (HK.out.get 1 rfl) 0 R1 r1 HE1.out HR1.out Hr1.out).mono ?_); rintro e u ⟨Aj, cj, rfl, hr, hb⟩; have hk := HK.out.add hb hr; clear hr hb; clear HK; have HK := Lib.hid hk; clear hk)
            | (go_at_call 26; (with_reducible refine (join_row _ _ _ _ _ _ _ _ _ (HK.out.get 2 rfl) (HK.out.get 1 rfl) 0 R1 r1 HE2.out HR2.out Hr1.out).mono ?_); rintro e u ⟨Ak, ck, rfl, hr, hb⟩; have hk := HK.out.add hb hr; clear hr hb; clear HK; have HK := Lib.hid hk; clear hk)
            | (go_at_call 26; (with_reducible refine (join_row _ _ _ _ _ _ _ _ _ (HK.out.get 2 rfl) (HK.out.get 2 rfl) 0 x0 n0 HE3.out HR3.out Hr3.out).mono ?_); rintro e u ⟨Ai, ci, rfl, hr, hb⟩; have hk := HK.out.add hb hr; clear hr hb; clear HK; have HK := Lib.hid hk; clear hk)
            | (go_at_call 25; (with_reducible refine (same_eq _ _ _ _ _ _ _ _ _ (same_refl R1) _ (HK.out.get 2 rfl) (HK.out.get 1 rfl)).mono ?_); rintro e u ⟨rfl, hb⟩; have hk := HK.out.call hb; clear hb; clear HK; have HK := Lib.hid hk; clear hk)
            | (go_at_call 25; (with_reducible refine (same_eq _ _ _ _ _ _ _ _ _ (same_refl x0) _ (HK.out.get 0 rfl) (HK.out.get 3 rfl)).mono ?_); rintro e u ⟨rfl, hb⟩; have hk := HK.out.call hb; clear hb; clear HK; have HK := Lib.hid hk; clear hk)
            | (go_at_call 16; (with_reducible refine (rrights_eq _ _ _ _ _ HRT.out _ (HK.out.get 3 rfl)).mono ?_); rintro e u ⟨rfl, hb⟩; have hk := HK.out.call hb; clear hb; clear HK; have HK := Lib.hid hk; clear hk)
            | (go_at_call 26; (with_reducible refine (join_row _ _ _ _ _ _ _ _ _ (HK.out.get 2 rfl) (HK.out.get 5 rfl) E3 R3 r3 HE4.out HR4.out Hr4.out).mono ?_); rintro e u ⟨Ax, cx, rfl, hr, hb⟩; have hk := HK.out.add hb hr; clear hr hb; clear HK; have HK := Lib.hid hk; clear hk)
            | (go_at_call 26; (with_reducible refine (join_row _ _ _ _ _ _ _ _ _ (HK.out.get 5 rfl) (HK.out.get 6 rfl) E4 R4 r4 HE5.out HR5.out Hr5.out).mono ?_); rintro e u ⟨Ay, cy, rfl, hr, hb⟩; have hk := HK.out.add hb hr; clear hr hb; clear HK; have HK := Lib.hid hk; clear hk)
            | (go_at_call 11; (with_reducible refine (awake_any _).mono ?_); rintro e u ⟨rfl, hb⟩; have hk := HK.out.call hb; clear hb; clear HK; have HK := Lib.hid hk; clear hk))
          go_ret
          exact ⟨rfl, HK.out.bel⟩
      · have hnl := joinL_none hE
        obtain ⟨E1, hE1⟩ : ∃ z, joinE x0 x1 = z := ⟨_, rfl⟩
        rw [hE1] at hE hcm
        have HE1 := Lib.hid hE1; have HR1 := Lib.hid hnl; have Hr1 := Lib.hid (show ([] : List Ho).length = 0 from rfl)
        have HE2 := Lib.hid hcm.1.symm; have HR2 := Lib.hid (hcm.2.symm.trans hnl)
        have q1e : (E1 != 0) = true := by simp [hE]
        clear hcm hnl hE1 hrt
        go_enter Try.func6, Try.ntmps6
        go_wp2_with (first
          | (with_reducible refine many_three HK.out rfl _ _ _ rfl rfl rfl rfl ?_; intro bq u hk hm; have HM := Lib.hid hm; clear hm; clear HK; have HK := Lib.hid hk; clear hk)
          | (go_at_call 10; (with_reducible refine (few_three _ _ _ _ _ _ _ _ _ _ _ HFEW.out _ HM.out).mono ?_); rintro e u ⟨rfl, rfl⟩)
          | (go_at_call 26; (with_reducible refine (join_row _ _ _ _ _ _ _ _ _ (HK.out.get 0 rfl) (HK.out.get 1 rfl) E1 [] 0 HE1.out HR1.out Hr1.out).mono ?_); rintro e u ⟨Aj, cj, rfl, hr, hb⟩; have hk := HK.out.add hb hr; clear hr hb; clear HK; have HK := Lib.hid hk; clear hk)
          | (go_at_call 26; (with_reducible refine (join_row _ _ _ _ _ _ _ _ _ (HK.out.get 2 rfl) (HK.out.get 1 rfl) E1 [] 0 HE2.out HR2.out Hr1.out).mono ?_); rintro e u ⟨Ak, ck, rfl, hr, hb⟩; have hk := HK.out.add hb hr; clear hr hb; clear HK; have HK := Lib.hid hk; clear hk)
          | (go_at_call 26; (with_reducible refine (join_row _ _ _ _ _ _ _ _ _ (HK.out.get 2 rfl) (HK.out.get 2 rfl) 0 x0 n0 HE3.out HR3.out Hr3.out).mono ?_); rintro e u ⟨Ai, ci, rfl, hr, hb⟩; have hk := HK.out.add hb hr; clear hr hb; clear HK; have HK := Lib.hid hk; clear hk)
          | (go_at_call 25; (with_reducible refine (same_eq _ _ _ _ _ _ _ _ _ (same_refl []) _ (HK.out.get 2 rfl) (HK.out.get 1 rfl)).mono ?_); rintro e u ⟨rfl, hb⟩; have hk := HK.out.call hb; clear hb; clear HK; have HK := Lib.hid hk; clear hk)
          | (go_at_call 25; (with_reducible refine (same_eq _ _ _ _ _ _ _ _ _ (same_refl x0) _ (HK.out.get 0 rfl) (HK.out.get 3 rfl)).mono ?_); rintro e u ⟨rfl, hb⟩; have hk := HK.out.call hb; clear hb; clear HK; have HK := Lib.hid hk; clear hk)
          | (go_at_call 16; (with_reducible refine (rrights_eq _ _ _ _ _ HRT.out _ (HK.out.get 3 rfl)).mono ?_); rintro e u ⟨rfl, hb⟩; have hk := HK.out.call hb; clear hb; clear HK; have HK := Lib.hid hk; clear hk)
          | (go_at_call 11; (with_reducible refine (awake_any _).mono ?_); rintro e u ⟨rfl, hb⟩; have hk := HK.out.call hb; clear hb; clear HK; have HK := Lib.hid hk; clear hk))
        go_ret
        exact ⟨rfl, HK.out.bel⟩
  · have HFEW := Lib.hid (few3n (A := A0) (B := A1) (C := A2) (c := c0) (d := c1) (e := c2) h40)
    have HK := Lib.hid (LawS.start (w := w) (rows := []) (by simp))
    clear hd0 hd1 hd2 h40
    go_enter Try.func6, Try.ntmps6
    go_wp2_with (first
      | (with_reducible refine many_three HK.out rfl _ _ _ rfl rfl rfl rfl ?_; intro bq u hk hm; have HM := Lib.hid hm; clear hm; clear HK; have HK := Lib.hid hk; clear hk)
      | (go_at_call 10; (with_reducible refine (few_three _ _ _ _ _ _ _ _ _ _ _ HFEW.out _ HM.out).mono ?_); rintro e u ⟨rfl, rfl⟩)
      | (go_at_call 11; (with_reducible refine (awake_any _).mono ?_); rintro e u ⟨rfl, hb⟩; have hk := HK.out.call hb; clear hb; clear HK; have HK := Lib.hid hk; clear hk))
    go_ret
    exact ⟨rfl, HK.out.bel⟩

set_option maxRecDepth 100000 in
theorem lifted (os : Os) (started : os.Started) (H : Type) (enc : TypeId × Value → H) :
    ReturnsInHanded {} Try.checked os 6 .any (Rows.holdLawsSpec.pre6 enc Try.prog Try.f6 Rows.holdLawsRow.domain false) (Rows.holdLawsSpec.post enc Try.prog Try.f6 false true false false) := by
  refine returnsInHanded_of_change (C := Try.checked) own started (by kernel_rfl) Try.func6
    (ChangeSpec.witness6 (enc := enc) (C := Try.checked) false ⟨#[], #[.slice none 0 0, .slice none 0 0, .slice none 0 0], []⟩ 12 (by kernel_rfl) (by kernel_rfl) (by kernel_rfl) (by kernel_rfl)) ?_
  intro W base args ds gs before hval0 hW hcnd _
  have hval : ∀ (j : Nat) t v, Try.f6.params[j]? = some t → args[j]? = some v → Value.okWide Try.prog W .any base t v := hval0
  have hW' := hW
  obtain ⟨p, q, hA0, hV, rfl, hfz, hnd⟩ := hW
  have hA : DataW.TrodAll enc Try.prog W 0 (fun _ => true) true Try.f6.params.toList args.toList ds p := hA0
  rw [Try.params6] at hA hval
  obtain ⟨v0, vs0, d0, ds0, p0, q0, hargs, rfl, rfl, h0, r0⟩ := trodAll_cons hA
  obtain ⟨v1, vs1, d1, ds1, p1, q1, rfl, rfl, rfl, h1, r1⟩ := trodAll_cons r0
  obtain ⟨v2, vs2, d2, ds2, p2, q2, rfl, rfl, rfl, h2, r2⟩ := trodAll_cons r1
  obtain ⟨rfl, rfl, rfl⟩ := trodAll_nil r2
  obtain rfl : args = #[v0, v1, v2] := by cases args; simp_all
  obtain ⟨rfl, rfl⟩ := trodVars_none hV
  have k0 := h0
  have lt0 : ∀ x ∈ p0, x.block < W.heap.size := by obtain ⟨m, hm⟩ := k0; exact DataW.trod_lt m _ _ _ hm
  obtain ⟨A0, n0, c0, x0, rfl, hd0⟩ := open_holds (hval 0 22 v0 rfl rfl) h0
  have k1 := h1
  have lt1 : ∀ x ∈ p1, x.block < W.heap.size := by obtain ⟨m, hm⟩ := k1; exact DataW.trod_lt m _ _ _ hm
  obtain ⟨A1, n1, c1, x1, rfl, hd1⟩ := open_holds (hval 1 22 v1 rfl rfl) h1
  have k2 := h2
  have lt2 : ∀ x ∈ p2, x.block < W.heap.size := by obtain ⟨m, hm⟩ := k2; exact DataW.trod_lt m _ _ _ hm
  obtain ⟨A2, n2, c2, x2, rfl, hd2⟩ := open_holds (hval 2 22 v2 rfl rfl) h2
  clear hA0 hval0
  refine (walk W A0 n0 c0 x0 hd0 A1 n1 c1 x1 hd1 A2 n2 c2 x2 hd2).mono fun e W' ⟨he, bel⟩ => ?_
  subst he
  exact ⟨_, rfl, _, _, _, [], _, [], hW', trodAll_mk1 (shut_bool Try.underlying4 _), (trodAll_cons_mk (Below.trod laidOut (by kernel_rfl) (of_decide_eq_true (by kernel_rfl)) k0 bel lt0) (trodAll_cons_mk (Below.trod laidOut (by kernel_rfl) (of_decide_eq_true (by kernel_rfl)) k1 bel lt1) (trodAll_cons_mk (Below.trod laidOut (by kernel_rfl) (of_decide_eq_true (by kernel_rfl)) k2 bel lt2) trodAll_mk0))), rfl, bel.frame _, fun h => by cases h⟩

theorem over : Rows.holdLawsRow.holds Try.pinned (OpenSpec.ofChange Rows.holdLawsSpec) :=
  OpenClaim.holds_of_wide 6 Try.f6 rfl rfl rfl rfl rfl rfl rfl ⟨rfl, rfl, rfl, rfl, rfl⟩ rfl rfl rfl rfl rfl (by kernel_rfl) Try.func6 (by kernel_rfl)
    (of_decide_eq_true (by kernel_rfl)) (by unfold Func.isWrapper; first | (rw [if_pos (by decide +kernel)]; kernel_rfl) | (rw [if_neg (by decide +kernel)]; exact ⟨rfl, rfl⟩))
    (fun os started H enc _ => lifted os started H enc)

theorem proved : Rows.HoldLawsSaid := over
#print axioms proved
end Go.Proofs.Ytaniacohimdpiaa.holdLaws
