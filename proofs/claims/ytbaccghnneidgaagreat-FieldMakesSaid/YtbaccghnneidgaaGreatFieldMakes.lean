/- A new counter, or lock, or that there is none, may be, and has the value that it was given. No condition. -/
import Derived.Test.YtbaccghnneidgaaGreatFa
import Derived.WalkKit
import Derived.ProofKit
import Derived.OpenShut
import Derived.ChangeOld
import Derived.Below
namespace Go.Proofs.YtbaccghnneidgaaGreat.fieldMakes
open Go.ChangeShapes Go.WideShapes Go.ChangeAt Go.RowKit
set_option linter.unusedVariables false

theorem own : ownKnob Tryz.prog.godebug = none := by kernel_rfl
theorem laidOut : laidOutB Tryz.prog = true := by kernel_rfl

theorem newC_get {i l h : Int} (p : Nat) : (newC i l h).getD p 0 = if p = 291 then h - i else if p = 3 then i - l else if p = 2 then h else if p = 1 then l else if p = 0 then i else 0 := by
  unfold newC
  rw [set_get (by simp [zer_length]), set_get (by simp [zer_length]), set_get (by simp [zer_length]), set_get (by simp [zer_length]), set_get (by simp [zer_length]), zer_get]
theorem one_right {R : List Int} {x : Int} (hR : R.length = 288) (h0 : 0 ≤ x) (h1 : x ≤ 1099511627776) (hg : ∀ p, p < 288 → R.getD p 0 = if p = 0 then x else 0) : rightsB R = true := by
  rw [rightsB_iff]
  refine ⟨fun j hj => (rightB_iff (seg_length (by omega))).2 fun k hk => ?_, fun j hj => ?_⟩
  · rw [seg_get hk, hg _ (by omega)]; split <;> omega
  · rw [hg _ (by omega), if_neg (by omega)]
theorem new_right {i l h : Int} (hb : newB i l h = true) : rightC (newC i l h) = true := by
  obtain ⟨b1, b2, b3, b4, b5⟩ := newB_iff.1 hb
  have hl := newC_length i l h
  obtain ⟨d1, d2⟩ := isB_iff.1 b5
  have r1 : rightsB (dnR (newC i l h)) = true := one_right (x := i - l) (dnR_length hl) (by omega) (by omega) fun p hp => by
    rw [dnR, seg_get hp, newC_get]
    by_cases e : p = 0
    · subst e; rfl
    · rw [if_neg (by omega), if_neg (by omega), if_neg (by omega), if_neg (by omega), if_neg (by omega), if_neg e]
  have r2 : rightsB (upR (newC i l h)) = true := one_right (x := h - i) (upR_length hl) (by omega) (by omega) fun p hp => by
    rw [upR, seg_get hp, newC_get]
    by_cases e : p = 0
    · subst e; rfl
    · rw [if_neg (by omega), if_neg (by omega), if_neg (by omega), if_neg (by omega), if_neg (by omega), if_neg e]
  have t1 : tot (seg (newC i l h) 3 16) = i - l := by
    rw [show seg (newC i l h) 3 16 = [i - l, 0, 0, 0, 0, 0, 0, 0, 0, 0, 0, 0, 0, 0, 0, 0] by kernel_rfl]; simp [tot]
  have t2 : tot (seg (newC i l h) 291 16) = h - i := by
    rw [show seg (newC i l h) 291 16 = [h - i, 0, 0, 0, 0, 0, 0, 0, 0, 0, 0, 0, 0, 0, 0, 0] by kernel_rfl]; simp [tot]
  have t3 : tot (seg (newC i l h) 307 16) = 0 := by rw [show seg (newC i l h) 307 16 = zer 16 by kernel_rfl]; rfl
  have t4 : tot (seg (newC i l h) 19 16) = 0 := by rw [show seg (newC i l h) 19 16 = zer 16 by kernel_rfl]; rfl
  have g0 : (newC i l h).getD 0 0 = i := by rw [newC_get]; rfl
  have g1 : (newC i l h).getD 1 0 = l := by rw [newC_get]; rfl
  have g2 : (newC i l h).getD 2 0 = h := by rw [newC_get]; rfl
  unfold rightC tieB
  rw [r1, r2, t1, t2, t3, t4, g0, g1, g2, b1, b2, decide_eq_true b3, decide_eq_true b4, decide_eq_true (show i - l ≤ 1099511627776 by omega), decide_eq_true (show h - i ≤ 1099511627776 by omega), decide_eq_true (show i - l = i - l + 0 by omega), decide_eq_true (show h - i = h - i + 0 by omega)]
  rfl
theorem sumFrom_zer : ∀ (n : Nat) (acc : Int), isB acc = true → sumFrom acc (zer n) = some acc
  | 0, acc, _ => rfl
  | n + 1, acc, h => by
    have e : zer (n + 1) = 0 :: zer n := rfl
    rw [e, sumFrom, if_pos (okB_iff.2 ⟨h, isB_zero, by rw [Int.add_zero]; exact h⟩), Int.add_zero]
    exact sumFrom_zer n acc h
theorem new_val {i l h : Int} (hb : newB i l h = true) : sumN (valL (newC i l h)) = i := by
  obtain ⟨b1, b2, b3, b4, b5⟩ := newB_iff.1 hb
  have hi : isB i = true := by
    have h1 := isB_iff.1 b1
    have h2 := isB_iff.1 b2
    exact isB_iff.2 (by omega)
  have e : valL (newC i l h) = i :: zer 32 := by kernel_rfl
  have s : sumFrom 0 (i :: zer 32) = some i := by
    rw [sumFrom, if_pos (okB_iff.2 ⟨isB_zero, hi, by rw [Int.zero_add]; exact hi⟩), Int.zero_add]
    exact sumFrom_zer 32 i hi
  rw [e]
  exact (sumN_some s).1
theorem zer_ok (D : List Int) (h : seg D 19 16 = zer 16) (p : Pf) (hp : p.C = D) (A : Option Addr) (c : Nat) : (p.fd A c).ok := fun z hz => by
  rw [show (p.fd A c).C = p.C from rfl, hp, h] at hz
  have : z = 0 := by
    obtain ⟨_, rfl⟩ := List.mem_replicate.1 hz
    rfl
  omega
theorem new_used (i l h : Int) : seg (newA i l h) 19 16 = zer 16 := by
  unfold newA
  split
  · kernel_rfl
  · kernel_rfl
theorem zP_wrong : rightF (zP.fd none 0) [] = false := by decide +kernel
theorem zP_view : viewN (zP.fd none 0) = 0 ∧ viewE (zP.fd none 0) = 17 := view_0 (f := zP.fd none 0) (by decide) (by decide)
/-- A new counter. -/
theorem ct_facts {s : ByteArray} (hs : nameB s = true) (i l h : Int) :
    (ctPE s i l h = 0 ∧ (ctP s i l h).hs = [] ∧ (ctP s i l h).nm = s ∧ viewN ((ctP s i l h).fd none 0) = i ∧ rightF ((ctP s i l h).fd none 0) (ctP s i l h).hs = true) ∨ (ctPE s i l h ≠ 0 ∧ ctP s i l h = zP) := by
  by_cases hb : newB i l h = true
  · refine .inl ?_
    have e : ctPE s i l h = 0 := by simp [ctPE, hs, newE, hb]
    have e2 : ctP s i l h = ⟨s, 1, 0, newC i l h, zL, []⟩ := by rw [ctP, e, toldP_0]; simp [newA, hb]
    refine ⟨e, by rw [e2], by rw [e2], ?_, ?_⟩
    · rw [e2, (view_1 (f := Pf.fd ⟨s, 1, 0, newC i l h, zL, []⟩ none 0) rfl).1]
      exact new_val hb
    · rw [e2]
      have r1 := new_right hb
      have r2 : rcB (Pf.fd ⟨s, 1, 0, newC i l h, zL, []⟩ none 0) [] = true := by
        rw [rcB, show (Pf.fd ⟨s, 1, 0, newC i l h, zL, []⟩ none 0).C = newC i l h from rfl, show (Pf.fd ⟨s, 1, 0, newC i l h, zL, []⟩ none 0).k = 1 from rfl, show (Pf.fd ⟨s, 1, 0, newC i l h, zL, []⟩ none 0).L = zL from rfl, r1, rights_nil]
        decide
      rw [rightF, r2, Bool.true_or, show (Pf.fd ⟨s, 1, 0, newC i l h, zL, []⟩ none 0).nm = s from rfl, show (Pf.fd ⟨s, 1, 0, newC i l h, zL, []⟩ none 0).e = 0 from rfl, hs]
      decide
  · refine .inr ?_
    have e : ctPE s i l h = 2 := by simp [ctPE, hs, newE, hb]
    exact ⟨by rw [e]; decide, by rw [ctP, e, toldP_n _ (by decide)]⟩
/-- A new lock. -/
theorem lk_facts {s : ByteArray} (hs : nameB s = true) (k n : Int) :
    (lkPE s k n = 0 ∧ (lkP s k n).hs = [] ∧ ((lkP s k n).fd none 0).cells[584]? = some (.int .i64 k) ∧ viewN ((lkP s k n).fd none 0) = n ∧ rightF ((lkP s k n).fd none 0) (lkP s k n).hs = true) ∨ (lkPE s k n ≠ 0 ∧ lkP s k n = zP) := by
  by_cases hb : repBK k = true ∧ isB n = true
  · refine .inl ?_
    have e0 : newEK k n = 0 := by simp [newEK, hb.1, hb.2]
    have e : lkPE s k n = 0 := by simp [lkPE, hs, e0]
    have e2 : lkP s k n = ⟨s, 2, 0, zer 579, ⟨0, 0, k, n⟩, []⟩ := by rw [lkP, e, toldP_0]; simp [newAK, e0]
    refine ⟨e, by rw [e2], ?_, ?_, ?_⟩
    · rw [e2]
      exact Fd.cB (f := Pf.fd ⟨s, 2, 0, zer 579, ⟨0, 0, k, n⟩, []⟩ none 0) (zer_length 579)
    · rw [e2, (view_2 (f := Pf.fd ⟨s, 2, 0, zer 579, ⟨0, 0, k, n⟩, []⟩ none 0) rfl).1]
      rfl
    · rw [e2]
      have r1 : rightL ⟨0, 0, k, n⟩ = true := by simp [rightL, cntB, isB, hb.1]; simpa [isB] using hb.2
      have r2 : rlB (Pf.fd ⟨s, 2, 0, zer 579, ⟨0, 0, k, n⟩, []⟩ none 0) = true := by
        rw [rlB, show (Pf.fd ⟨s, 2, 0, zer 579, ⟨0, 0, k, n⟩, []⟩ none 0).C = zer 579 from rfl, show (Pf.fd ⟨s, 2, 0, zer 579, ⟨0, 0, k, n⟩, []⟩ none 0).k = 2 from rfl, show (Pf.fd ⟨s, 2, 0, zer 579, ⟨0, 0, k, n⟩, []⟩ none 0).L = ⟨0, 0, k, n⟩ from rfl, show (Pf.fd ⟨s, 2, 0, zer 579, ⟨0, 0, k, n⟩, []⟩ none 0).n = 0 from rfl, r1]
        simp
      rw [rightF, r2, Bool.or_true, show (Pf.fd ⟨s, 2, 0, zer 579, ⟨0, 0, k, n⟩, []⟩ none 0).nm = s from rfl, show (Pf.fd ⟨s, 2, 0, zer 579, ⟨0, 0, k, n⟩, []⟩ none 0).e = 0 from rfl, hs]
      decide
  · refine .inr ?_
    have e0 : newEK k n ≠ 0 := by
      unfold newEK
      cases h1 : repBK k with
      | false => simp
      | true =>
        cases h2 : isB n with
        | false => simp
        | true => exact absurd ⟨h1, h2⟩ hb
    have e : lkPE s k n = newEK k n := by simp [lkPE, hs]
    exact ⟨by rw [e]; exact e0, by rw [lkP, e, toldP_n _ e0]⟩
theorem ct_ok (s : ByteArray) (i l h : Int) : ((ctP s i l h).fd none 0).ok := by
  unfold ctP toldP
  split
  · exact zer_ok _ (new_used i l h) _ rfl none 0
  · exact zer_ok (zer 579) (by kernel_rfl) _ rfl none 0
theorem lk_ok (s : ByteArray) (k n : Int) : ((lkP s k n).fd none 0).ok := by
  unfold lkP toldP
  split
  · exact zer_ok (zer 579) (by kernel_rfl) _ rfl none 0
  · exact zer_ok (zer 579) (by kernel_rfl) _ rfl none 0
theorem vok {p : Pf} {A : Option Addr} {c : Nat} (hp : p.full) (hD : (p.fd A c).ok) (w : World) : Calls Tryz.prog 11 #[.agg (p.fd A c).cells.toArray] w fun e w' => e = .returned (.tuple #[.int .i64 (viewN (p.fd A c)), .int .i64 (viewE (p.fd A c))]) ∧ Below w.heap.size w w' := view_any (p.fd A c) hp hD w
theorem lk_nm {s : ByteArray} {k n : Int} (h : lkPE s k n = 0) : (lkP s k n).nm = s := by rw [lkP, h, toldP_0]

set_option maxRecDepth 100000 in
set_option maxHeartbeats 4000000 in
theorem walk (w : World) (s0 : ByteArray) (a1 : Int) (w1 : (Lit.int .i64 a1).wf = true) (a2 : Int) (w2 : (Lit.int .i64 a2).wf = true) (a3 : Int) (w3 : (Lit.int .i64 a3).wf = true) :
    Calls Tryz.prog 4 #[.string s0, .int .i64 a1, .int .i64 a2, .int .i64 a3] w fun e w' => e = .returned (.bool true) ∧ Below w.heap.size w w' := by
  have HK := Lib.hid (KeepF.start (w := w) (rows := [(none, 0, [])]) (by simpa using Row.nil w none))
  by_cases h100 : s0.size ≤ 100
  rotate_left
  · have d100 : decide ((100 : Int) < (s0.size : Int)) = true := by rw [decide_eq_true_eq]; omega
    go_enter Tryz.func4, Tryz.ntmps4
    go_wp2_with (first
      | (go_at_call 10; (with_reducible refine (awake_f _).mono ?_); rintro e u ⟨rfl, hb⟩; have hk := HK.out.call hb; clear hb; clear HK; have HK := Lib.hid hk; clear hk))
    go_ret
    exact ⟨rfl, HK.out.bel⟩
  · have d100 : decide ((100 : Int) < (s0.size : Int)) = false := by rw [decide_eq_false_iff_not]; omega
    have hc1 := fcounter_any s0 (by omega) a1 a2 a3
    have hc2 := flock_any s0 (by omega) a2 a1
    have hn2 := rfname_any s0 (by omega)
    cases hnm : nameB s0 with
    | false =>
      rw [hnm] at hn2
      rw [show ctPE s0 a1 a2 a3 = 1 by simp [ctPE, hnm], show ctP s0 a1 a2 a3 = zP by simp [ctP, ctPE, hnm, toldP]] at hc1
      rw [show lkPE s0 a2 a1 = 1 by simp [lkPE, hnm], show lkP s0 a2 a1 = zP by simp [lkP, lkPE, hnm, toldP]] at hc2
      have hv1 := fun w => vok zP_full (zer_ok (zer 579) (by kernel_rfl) zP rfl none 0) w
      rw [zP_view.1, zP_view.2] at hv1
      have hsm := fun w h => fsame_any zP zP_full none 0 w h
      rw [show zP.hs.length = 0 from rfl, show zP.hs = [] from rfl] at hsm
      go_enter Tryz.func4, Tryz.ntmps4
      go_wp2_with (first
        | (go_at_call 20; (with_reducible refine (hc1 _).mono ?_); rintro e u ⟨rfl, hb⟩; have hk := HK.out.call hb; clear hb; clear HK; have HK := Lib.hid hk; clear hk)
        | (go_at_call 21; (with_reducible refine (hc2 _).mono ?_); rintro e u ⟨rfl, hb⟩; have hk := HK.out.call hb; clear hb; clear HK; have HK := Lib.hid hk; clear hk)
        | (with_reducible refine alloc_f HK.out f_zeroP rfl rfl ?_; intro bz u hk; clear HK; have HK := Lib.hid hk; clear hk)
        | (with_reducible refine store_fr HK.out 0 (Pf.infoF zP_full) (Fd.one _) rfl rfl _ _ rfl rfl rfl rfl (Fd.leP zP_full zP_full) (Fd.setAllP zP_full zP_full) ?_; intro u hk; simp only [List.set_cons_zero] at hk; clear HK; have HK := Lib.hid hk; clear hk)
        | (with_reducible refine load_fr HK.out 0 Tryz.underlying33 rfl (Pf.infoF zP_full) _ rfl rfl rfl rfl Pf.all ?_)
        | (with_reducible refine load_fr HK.out 1 Tryz.underlying33 rfl (Pf.infoF zP_full) _ rfl rfl rfl rfl Pf.all ?_)
        | (go_at_call 11; (with_reducible refine (hv1 _).mono ?_); rintro e u ⟨rfl, hb⟩; have hk := HK.out.call hb; clear hb; clear HK; have HK := Lib.hid hk; clear hk)
        | (go_at_call 18; (with_reducible refine (hn2 _).mono ?_); rintro e u ⟨rfl, hb⟩; have hk := HK.out.call hb; clear hb; clear HK; have HK := Lib.hid hk; clear hk)
        | (with_reducible refine build_fw f_buildP rfl rfl ?_)
        | (go_at_call 19; (with_reducible refine (hsm _ (HK.out.rowAt 0 rfl)).mono ?_); rintro e u ⟨rfl, hb⟩; have hk := HK.out.call hb; clear hb; clear HK; have HK := Lib.hid hk; clear hk)
        | (go_at_call 10; (with_reducible refine (awake_f _).mono ?_); rintro e u ⟨rfl, hb⟩; have hk := HK.out.call hb; clear hb; clear HK; have HK := Lib.hid hk; clear hk))
      go_ret
      exact ⟨rfl, HK.out.bel⟩
    | true =>
      rw [hnm] at hn2
      rcases ct_facts hnm a1 a2 a3 with ⟨e1, s1, n1, v1, r1⟩ | ⟨e1, z1⟩
      · rcases lk_facts hnm a2 a1 with ⟨e2, s2, b2, v2, r2⟩ | ⟨e2, z2⟩
        · have hnm0 := hnm
          clear hnm
          rw [e2] at hc2
          have hcb := b2
          have hv2 := fun w => vok (lkP_full s0 a2 a1) (lk_ok s0 a2 a1) w
          rw [v2] at hv2
          have hr2 := fun w h => rright_any7 ((lkP s0 a2 a1).fd none 0) (lkP_full s0 a2 a1) (by rw [show ((lkP s0 a2 a1).fd none 0).nm = (lkP s0 a2 a1).nm from rfl, lk_nm e2]; omega) (lkP s0 a2 a1).hs w h true r2
          rw [show ((lkP s0 a2 a1).fd none 0).A = none from rfl, show ((lkP s0 a2 a1).fd none 0).n = (lkP s0 a2 a1).hs.length from rfl, s2] at hr2
          have HP2 := Lib.hid (lkP_full s0 a2 a1)
          clear v2 r2 s2 b2
          generalize lkP s0 a2 a1 = P2 at hc2 hcb hv2 hr2 HP2
          generalize viewE (P2.fd none 0) = vE2 at hv2
          rw [e1] at hc1
          have hcn : ((ctP s0 a1 a2 a3).fd none 0).cells[0]? = some (.string s0) := by rw [Pf.cn, n1]
          have hv1 := fun w => vok (ctP_full s0 a1 a2 a3) (ct_ok s0 a1 a2 a3) w
          rw [v1] at hv1
          have hr1 := fun w h => rright_any7 ((ctP s0 a1 a2 a3).fd none 0) (ctP_full s0 a1 a2 a3) (by rw [show ((ctP s0 a1 a2 a3).fd none 0).nm = (ctP s0 a1 a2 a3).nm from rfl, n1]; omega) (ctP s0 a1 a2 a3).hs w h true r1
          rw [show ((ctP s0 a1 a2 a3).fd none 0).A = none from rfl, show ((ctP s0 a1 a2 a3).fd none 0).n = (ctP s0 a1 a2 a3).hs.length from rfl, s1] at hr1
          have HP1 := Lib.hid (ctP_full s0 a1 a2 a3)
          generalize ctP s0 a1 a2 a3 = P1 at hc1 hcn hv1 hr1 HP1
          generalize viewE (P1.fd none 0) = vE1 at hv1
          clear e1 s1 n1 v1 r1 e2
          go_enter Tryz.func4, Tryz.ntmps4
          go_wp2_with (first
            | (go_at_call 20; (with_reducible refine (hc1 _).mono ?_); rintro e u ⟨rfl, hb⟩; have hk := HK.out.call hb; clear hb; clear HK; have HK := Lib.hid hk; clear hk)
            | (go_at_call 21; (with_reducible refine (hc2 _).mono ?_); rintro e u ⟨rfl, hb⟩; have hk := HK.out.call hb; clear hb; clear HK; have HK := Lib.hid hk; clear hk)
            | (with_reducible refine alloc_f HK.out f_zeroP rfl rfl ?_; intro bz u hk; clear HK; have HK := Lib.hid hk; clear hk)
            | (with_reducible refine store_fr HK.out 0 (Pf.infoF HP1.out) (Fd.one _) rfl rfl _ _ rfl rfl rfl rfl (Fd.leP zP_full HP1.out) (Fd.setAllP zP_full HP1.out) ?_; intro u hk; simp only [List.set_cons_zero] at hk; clear HK; have HK := Lib.hid hk; clear hk)
            | (with_reducible refine store_fr HK.out 0 (Pf.infoF HP2.out) (Fd.one _) rfl rfl _ _ rfl rfl rfl rfl (Fd.leP zP_full HP2.out) (Fd.setAllP zP_full HP2.out) ?_; intro u hk; simp only [List.set_cons_zero] at hk; clear HK; have HK := Lib.hid hk; clear hk)
            | (with_reducible refine load_fr HK.out 0 Tryz.underlying33 rfl (Pf.infoF HP1.out) _ rfl rfl rfl rfl Pf.all ?_)
            | (with_reducible refine load_fr HK.out 1 Tryz.underlying33 rfl (Pf.infoF HP1.out) _ rfl rfl rfl rfl Pf.all ?_)
            | (with_reducible refine load_fr HK.out 0 Tryz.underlying33 rfl (Pf.infoF HP2.out) _ rfl rfl rfl rfl Pf.all ?_)
            | (go_at_call 11; (with_reducible refine (hv1 _).mono ?_); rintro e u ⟨rfl, hb⟩; have hk := HK.out.call hb; clear hb; clear HK; have HK := Lib.hid hk; clear hk)
            | (go_at_call 11; (with_reducible refine (hv2 _).mono ?_); rintro e u ⟨rfl, hb⟩; have hk := HK.out.call hb; clear hb; clear HK; have HK := Lib.hid hk; clear hk)
            | (go_at_call 18; (with_reducible refine (hn2 _).mono ?_); rintro e u ⟨rfl, hb⟩; have hk := HK.out.call hb; clear hb; clear HK; have HK := Lib.hid hk; clear hk)
            | (go_at_call 14; (with_reducible refine (hr1 _ (HK.out.rowAt 0 rfl)).mono ?_); rintro e u ⟨rfl, hb⟩; have hk := HK.out.call hb; clear hb; clear HK; have HK := Lib.hid hk; clear hk)
            | (go_at_call 14; (with_reducible refine (hr2 _ (HK.out.rowAt 0 rfl)).mono ?_); rintro e u ⟨rfl, hb⟩; have hk := HK.out.call hb; clear hb; clear HK; have HK := Lib.hid hk; clear hk)
            | (with_reducible refine load_f1 HK.out 1 cbS _ rfl rfl rfl rfl hcn ?_)
            | (with_reducible refine load_f1 HK.out 0 cbI _ rfl rfl rfl rfl hcb ?_)
            | (go_at_call 10; (with_reducible refine (awake_f _).mono ?_); rintro e u ⟨rfl, hb⟩; have hk := HK.out.call hb; clear hb; clear HK; have HK := Lib.hid hk; clear hk))
          go_ret
          exact ⟨rfl, HK.out.bel⟩
        · clear hnm
          rw [z2] at hc2
          have hv2 := fun w => vok zP_full (zer_ok (zer 579) (by kernel_rfl) zP rfl none 0) w
          rw [zP_view.1, zP_view.2] at hv2
          have hr2 := fun w h => rright_any7 (zP.fd none 0) zP_full (by decide) [] w h false zP_wrong
          have d2 : (lkPE s0 a2 a1 != 0) = true := by simpa using e2
          have d2' : (lkPE s0 a2 a1 == 0) = false := by simpa using e2
          generalize lkPE s0 a2 a1 = E2 at hc2 d2 d2' e2
          rw [e1] at hc1
          have hcn : ((ctP s0 a1 a2 a3).fd none 0).cells[0]? = some (.string s0) := by rw [Pf.cn, n1]
          have hv1 := fun w => vok (ctP_full s0 a1 a2 a3) (ct_ok s0 a1 a2 a3) w
          rw [v1] at hv1
          have hr1 := fun w h => rright_any7 ((ctP s0 a1 a2 a3).fd none 0) (ctP_full s0 a1 a2 a3) (by rw [show ((ctP s0 a1 a2 a3).fd none 0).nm = (ctP s0 a1 a2 a3).nm from rfl, n1]; omega) (ctP s0 a1 a2 a3).hs w h true r1
          rw [show ((ctP s0 a1 a2 a3).fd none 0).A = none from rfl, show ((ctP s0 a1 a2 a3).fd none 0).n = (ctP s0 a1 a2 a3).hs.length from rfl, s1] at hr1
          have HP1 := Lib.hid (ctP_full s0 a1 a2 a3)
          generalize ctP s0 a1 a2 a3 = P1 at hc1 hcn hv1 hr1 HP1
          generalize viewE (P1.fd none 0) = vE1 at hv1
          clear e1 s1 n1 v1 r1 e2 z2
          go_enter Tryz.func4, Tryz.ntmps4
          go_wp2_with (first
            | (go_at_call 20; (with_reducible refine (hc1 _).mono ?_); rintro e u ⟨rfl, hb⟩; have hk := HK.out.call hb; clear hb; clear HK; have HK := Lib.hid hk; clear hk)
            | (go_at_call 21; (with_reducible refine (hc2 _).mono ?_); rintro e u ⟨rfl, hb⟩; have hk := HK.out.call hb; clear hb; clear HK; have HK := Lib.hid hk; clear hk)
            | (with_reducible refine alloc_f HK.out f_zeroP rfl rfl ?_; intro bz u hk; clear HK; have HK := Lib.hid hk; clear hk)
            | (with_reducible refine store_fr HK.out 0 (Pf.infoF HP1.out) (Fd.one _) rfl rfl _ _ rfl rfl rfl rfl (Fd.leP zP_full HP1.out) (Fd.setAllP zP_full HP1.out) ?_; intro u hk; simp only [List.set_cons_zero] at hk; clear HK; have HK := Lib.hid hk; clear hk)
            | (with_reducible refine store_fr HK.out 0 (Pf.infoF zP_full) (Fd.one _) rfl rfl _ _ rfl rfl rfl rfl (Fd.leP zP_full zP_full) (Fd.setAllP zP_full zP_full) ?_; intro u hk; simp only [List.set_cons_zero] at hk; clear HK; have HK := Lib.hid hk; clear hk)
            | (with_reducible refine load_fr HK.out 0 Tryz.underlying33 rfl (Pf.infoF HP1.out) _ rfl rfl rfl rfl Pf.all ?_)
            | (with_reducible refine load_fr HK.out 1 Tryz.underlying33 rfl (Pf.infoF HP1.out) _ rfl rfl rfl rfl Pf.all ?_)
            | (with_reducible refine load_fr HK.out 0 Tryz.underlying33 rfl (Pf.infoF zP_full) _ rfl rfl rfl rfl Pf.all ?_)
            | (go_at_call 11; (with_reducible refine (hv1 _).mono ?_); rintro e u ⟨rfl, hb⟩; have hk := HK.out.call hb; clear hb; clear HK; have HK := Lib.hid hk; clear hk)
            | (go_at_call 11; (with_reducible refine (hv2 _).mono ?_); rintro e u ⟨rfl, hb⟩; have hk := HK.out.call hb; clear hb; clear HK; have HK := Lib.hid hk; clear hk)
            | (go_at_call 18; (with_reducible refine (hn2 _).mono ?_); rintro e u ⟨rfl, hb⟩; have hk := HK.out.call hb; clear hb; clear HK; have HK := Lib.hid hk; clear hk)
            | (go_at_call 14; (with_reducible refine (hr1 _ (HK.out.rowAt 0 rfl)).mono ?_); rintro e u ⟨rfl, hb⟩; have hk := HK.out.call hb; clear hb; clear HK; have HK := Lib.hid hk; clear hk)
            | (go_at_call 14; (with_reducible refine (hr2 _ (HK.out.rowAt 0 rfl)).mono ?_); rintro e u ⟨rfl, hb⟩; have hk := HK.out.call hb; clear hb; clear HK; have HK := Lib.hid hk; clear hk)
            | (with_reducible refine load_f1 HK.out 1 cbS _ rfl rfl rfl rfl hcn ?_)
            | (go_at_call 10; (with_reducible refine (awake_f _).mono ?_); rintro e u ⟨rfl, hb⟩; have hk := HK.out.call hb; clear hb; clear HK; have HK := Lib.hid hk; clear hk))
          go_ret
          exact ⟨rfl, HK.out.bel⟩
      · rcases lk_facts hnm a2 a1 with ⟨e2, s2, b2, v2, r2⟩ | ⟨e2, z2⟩
        · clear hnm
          rw [e2] at hc2
          have hcb := b2
          have hv2 := fun w => vok (lkP_full s0 a2 a1) (lk_ok s0 a2 a1) w
          rw [v2] at hv2
          have hr2 := fun w h => rright_any7 ((lkP s0 a2 a1).fd none 0) (lkP_full s0 a2 a1) (by rw [show ((lkP s0 a2 a1).fd none 0).nm = (lkP s0 a2 a1).nm from rfl, lk_nm e2]; omega) (lkP s0 a2 a1).hs w h true r2
          rw [show ((lkP s0 a2 a1).fd none 0).A = none from rfl, show ((lkP s0 a2 a1).fd none 0).n = (lkP s0 a2 a1).hs.length from rfl, s2] at hr2
          have HP2 := Lib.hid (lkP_full s0 a2 a1)
          clear v2 r2 s2 b2
          generalize lkP s0 a2 a1 = P2 at hc2 hcb hv2 hr2 HP2
          generalize viewE (P2.fd none 0) = vE2 at hv2
          rw [z1] at hc1
          have hv1 := fun w => vok zP_full (zer_ok (zer 579) (by kernel_rfl) zP rfl none 0) w
          rw [zP_view.1, zP_view.2] at hv1
          have hr1 := fun w h => rright_any7 (zP.fd none 0) zP_full (by decide) [] w h false zP_wrong
          have d1 : (ctPE s0 a1 a2 a3 != 0) = true := by simpa using e1
          have d1' : (ctPE s0 a1 a2 a3 == 0) = false := by simpa using e1
          generalize ctPE s0 a1 a2 a3 = E1 at hc1 d1 d1' e1
          clear e1 z1 e2
          go_enter Tryz.func4, Tryz.ntmps4
          go_wp2_with (first
            | (go_at_call 20; (with_reducible refine (hc1 _).mono ?_); rintro e u ⟨rfl, hb⟩; have hk := HK.out.call hb; clear hb; clear HK; have HK := Lib.hid hk; clear hk)
            | (go_at_call 21; (with_reducible refine (hc2 _).mono ?_); rintro e u ⟨rfl, hb⟩; have hk := HK.out.call hb; clear hb; clear HK; have HK := Lib.hid hk; clear hk)
            | (with_reducible refine alloc_f HK.out f_zeroP rfl rfl ?_; intro bz u hk; clear HK; have HK := Lib.hid hk; clear hk)
            | (with_reducible refine store_fr HK.out 0 (Pf.infoF zP_full) (Fd.one _) rfl rfl _ _ rfl rfl rfl rfl (Fd.leP zP_full zP_full) (Fd.setAllP zP_full zP_full) ?_; intro u hk; simp only [List.set_cons_zero] at hk; clear HK; have HK := Lib.hid hk; clear hk)
            | (with_reducible refine store_fr HK.out 0 (Pf.infoF HP2.out) (Fd.one _) rfl rfl _ _ rfl rfl rfl rfl (Fd.leP zP_full HP2.out) (Fd.setAllP zP_full HP2.out) ?_; intro u hk; simp only [List.set_cons_zero] at hk; clear HK; have HK := Lib.hid hk; clear hk)
            | (with_reducible refine load_fr HK.out 0 Tryz.underlying33 rfl (Pf.infoF zP_full) _ rfl rfl rfl rfl Pf.all ?_)
            | (with_reducible refine load_fr HK.out 1 Tryz.underlying33 rfl (Pf.infoF zP_full) _ rfl rfl rfl rfl Pf.all ?_)
            | (with_reducible refine load_fr HK.out 0 Tryz.underlying33 rfl (Pf.infoF HP2.out) _ rfl rfl rfl rfl Pf.all ?_)
            | (go_at_call 11; (with_reducible refine (hv1 _).mono ?_); rintro e u ⟨rfl, hb⟩; have hk := HK.out.call hb; clear hb; clear HK; have HK := Lib.hid hk; clear hk)
            | (go_at_call 11; (with_reducible refine (hv2 _).mono ?_); rintro e u ⟨rfl, hb⟩; have hk := HK.out.call hb; clear hb; clear HK; have HK := Lib.hid hk; clear hk)
            | (go_at_call 18; (with_reducible refine (hn2 _).mono ?_); rintro e u ⟨rfl, hb⟩; have hk := HK.out.call hb; clear hb; clear HK; have HK := Lib.hid hk; clear hk)
            | (go_at_call 14; (with_reducible refine (hr1 _ (HK.out.rowAt 0 rfl)).mono ?_); rintro e u ⟨rfl, hb⟩; have hk := HK.out.call hb; clear hb; clear HK; have HK := Lib.hid hk; clear hk)
            | (go_at_call 14; (with_reducible refine (hr2 _ (HK.out.rowAt 0 rfl)).mono ?_); rintro e u ⟨rfl, hb⟩; have hk := HK.out.call hb; clear hb; clear HK; have HK := Lib.hid hk; clear hk)
            | (with_reducible refine load_f1 HK.out 0 cbI _ rfl rfl rfl rfl hcb ?_)
            | (go_at_call 10; (with_reducible refine (awake_f _).mono ?_); rintro e u ⟨rfl, hb⟩; have hk := HK.out.call hb; clear hb; clear HK; have HK := Lib.hid hk; clear hk))
          go_ret
          exact ⟨rfl, HK.out.bel⟩
        · clear hnm
          rw [z2] at hc2
          have hv2 := fun w => vok zP_full (zer_ok (zer 579) (by kernel_rfl) zP rfl none 0) w
          rw [zP_view.1, zP_view.2] at hv2
          have hr2 := fun w h => rright_any7 (zP.fd none 0) zP_full (by decide) [] w h false zP_wrong
          have d2 : (lkPE s0 a2 a1 != 0) = true := by simpa using e2
          have d2' : (lkPE s0 a2 a1 == 0) = false := by simpa using e2
          generalize lkPE s0 a2 a1 = E2 at hc2 d2 d2' e2
          rw [z1] at hc1
          have hv1 := fun w => vok zP_full (zer_ok (zer 579) (by kernel_rfl) zP rfl none 0) w
          rw [zP_view.1, zP_view.2] at hv1
          have hr1 := fun w h => rright_any7 (zP.fd none 0) zP_full (by decide) [] w h false zP_wrong
          have d1 : (ctPE s0 a1 a2 a3 != 0) = true := by simpa using e1
          have d1' : (ctPE s0 a1 a2 a3 == 0) = false := by simpa using e1
          generalize ctPE s0 a1 a2 a3 = E1 at hc1 d1 d1' e1
          clear e1 z1 e2 z2
          go_enter Tryz.func4, Tryz.ntmps4
          go_wp2_with (first
            | (go_at_call 20; (with_reducible refine (hc1 _).mono ?_); rintro e u ⟨rfl, hb⟩; have hk := HK.out.call hb; clear hb; clear HK; have HK := Lib.hid hk; clear hk)
            | (go_at_call 21; (with_reducible refine (hc2 _).mono ?_); rintro e u ⟨rfl, hb⟩; have hk := HK.out.call hb; clear hb; clear HK; have HK := Lib.hid hk; clear hk)
            | (with_reducible refine alloc_f HK.out f_zeroP rfl rfl ?_; intro bz u hk; clear HK; have HK := Lib.hid hk; clear hk)
            | (with_reducible refine store_fr HK.out 0 (Pf.infoF zP_full) (Fd.one _) rfl rfl _ _ rfl rfl rfl rfl (Fd.leP zP_full zP_full) (Fd.setAllP zP_full zP_full) ?_; intro u hk; simp only [List.set_cons_zero] at hk; clear HK; have HK := Lib.hid hk; clear hk)
            | (with_reducible refine store_fr HK.out 0 (Pf.infoF zP_full) (Fd.one _) rfl rfl _ _ rfl rfl rfl rfl (Fd.leP zP_full zP_full) (Fd.setAllP zP_full zP_full) ?_; intro u hk; simp only [List.set_cons_zero, List.set_cons_succ] at hk; clear HK; have HK := Lib.hid hk; clear hk)
            | (with_reducible refine load_fr HK.out 0 Tryz.underlying33 rfl (Pf.infoF zP_full) _ rfl rfl rfl rfl Pf.all ?_)
            | (with_reducible refine load_fr HK.out 1 Tryz.underlying33 rfl (Pf.infoF zP_full) _ rfl rfl rfl rfl Pf.all ?_)
            | (with_reducible refine load_fr HK.out 0 Tryz.underlying33 rfl (Pf.infoF zP_full) _ rfl rfl rfl rfl Pf.all ?_)
            | (go_at_call 11; (with_reducible refine (hv1 _).mono ?_); rintro e u ⟨rfl, hb⟩; have hk := HK.out.call hb; clear hb; clear HK; have HK := Lib.hid hk; clear hk)
            | (go_at_call 11; (with_reducible refine (hv2 _).mono ?_); rintro e u ⟨rfl, hb⟩; have hk := HK.out.call hb; clear hb; clear HK; have HK := Lib.hid hk; clear hk)
            | (go_at_call 18; (with_reducible refine (hn2 _).mono ?_); rintro e u ⟨rfl, hb⟩; have hk := HK.out.call hb; clear hb; clear HK; have HK := Lib.hid hk; clear hk)
            | (go_at_call 14; (with_reducible refine (hr1 _ (HK.out.rowAt 0 rfl)).mono ?_); rintro e u ⟨rfl, hb⟩; have hk := HK.out.call hb; clear hb; clear HK; have HK := Lib.hid hk; clear hk)
            | (go_at_call 14; (with_reducible refine (hr2 _ (HK.out.rowAt 0 rfl)).mono ?_); rintro e u ⟨rfl, hb⟩; have hk := HK.out.call hb; clear hb; clear HK; have HK := Lib.hid hk; clear hk)
            | (go_at_call 10; (with_reducible refine (awake_f _).mono ?_); rintro e u ⟨rfl, hb⟩; have hk := HK.out.call hb; clear hb; clear HK; have HK := Lib.hid hk; clear hk))
          go_ret
          exact ⟨rfl, HK.out.bel⟩

set_option maxRecDepth 100000 in
theorem lifted (os : Os) (started : os.Started) (H : Type) (enc : TypeId × Value → H) :
    ReturnsInHanded {} Tryz.checked os 4 .any (Rows.fieldMakesSpec.pre6 enc Tryz.prog Tryz.f4 Rows.fieldMakesRow.domain false) (Rows.fieldMakesSpec.post enc Tryz.prog Tryz.f4 false true false false) := by
  refine returnsInHanded_of_change (C := Tryz.checked) own started (by kernel_rfl) Tryz.func4
    (ChangeSpec.witness6 (enc := enc) (C := Tryz.checked) false ⟨#[], #[.string ⟨#[]⟩, .int .i64 0, .int .i64 0, .int .i64 0], []⟩ 12 (by kernel_rfl) (by kernel_rfl) (by kernel_rfl) (by kernel_rfl)) ?_
  intro W base args ds gs before hval0 hW hcnd _
  have hval : ∀ (j : Nat) t v, Tryz.f4.params[j]? = some t → args[j]? = some v → Value.okWide Tryz.prog W .any base t v := hval0
  have hW' := hW
  obtain ⟨p, q, hA0, hV, rfl, hfz, hnd⟩ := hW
  have hA : DataW.TrodAll enc Tryz.prog W 0 (fun _ => true) true Tryz.f4.params.toList args.toList ds p := hA0
  rw [Tryz.params4] at hA hval
  obtain ⟨v0, vs0, d0, ds0, q0, r0, hargs, rfl, rfl, h0, t0⟩ := trodAll_cons hA
  obtain ⟨v1, vs1, d1, ds1, q1, r1, rfl, rfl, rfl, h1, t1⟩ := trodAll_cons t0
  obtain ⟨v2, vs2, d2, ds2, q2, r2, rfl, rfl, rfl, h2, t2⟩ := trodAll_cons t1
  obtain ⟨v3, vs3, d3, ds3, q3, r3, rfl, rfl, rfl, h3, t3⟩ := trodAll_cons t2
  obtain ⟨rfl, rfl, rfl⟩ := trodAll_nil t3
  obtain rfl : args = #[v0, v1, v2, v3] := by cases args; simp_all
  obtain ⟨rfl, rfl⟩ := trodVars_none hV
  have k0 := h0
  have lt0 : ∀ x ∈ q0, x.block < W.heap.size := by obtain ⟨m, hm⟩ := k0; exact DataW.trod_lt m _ _ _ hm
  obtain ⟨s0, rfl, rfl, rfl, hs0⟩ := Go.ChangeMaps.open_string Tryz.underlying9 (hval 0 9 v0 rfl rfl) h0
  have k1 := h1
  have lt1 : ∀ x ∈ q1, x.block < W.heap.size := by obtain ⟨m, hm⟩ := k1; exact DataW.trod_lt m _ _ _ hm
  obtain ⟨a1, rfl, rfl, rfl, w1⟩ := open_int Tryz.underlying3 (hval 1 3 v1 rfl rfl) h1
  have k2 := h2
  have lt2 : ∀ x ∈ q2, x.block < W.heap.size := by obtain ⟨m, hm⟩ := k2; exact DataW.trod_lt m _ _ _ hm
  obtain ⟨a2, rfl, rfl, rfl, w2⟩ := open_int Tryz.underlying3 (hval 2 3 v2 rfl rfl) h2
  have k3 := h3
  have lt3 : ∀ x ∈ q3, x.block < W.heap.size := by obtain ⟨m, hm⟩ := k3; exact DataW.trod_lt m _ _ _ hm
  obtain ⟨a3, rfl, rfl, rfl, w3⟩ := open_int Tryz.underlying3 (hval 3 3 v3 rfl rfl) h3
  clear hA0 hval0
  refine (walk W s0 a1 w1 a2 w2 a3 w3).mono fun e W' ⟨he, bel⟩ => ?_
  subst he
  exact ⟨_, rfl, _, _, _, [], _, [], hW', trodAll_mk1 (shut_bool Tryz.underlying4 _), (trodAll_cons_mk (Below.trod laidOut (by kernel_rfl) (of_decide_eq_true (by kernel_rfl)) k0 bel lt0) (trodAll_cons_mk (Below.trod laidOut (by kernel_rfl) (of_decide_eq_true (by kernel_rfl)) k1 bel lt1) (trodAll_cons_mk (Below.trod laidOut (by kernel_rfl) (of_decide_eq_true (by kernel_rfl)) k2 bel lt2) (trodAll_cons_mk (Below.trod laidOut (by kernel_rfl) (of_decide_eq_true (by kernel_rfl)) k3 bel lt3) trodAll_mk0)))), rfl, bel.frame _, fun h => by cases h⟩

theorem over : Rows.fieldMakesRow.holds Tryz.pinned (OpenSpec.ofChange Rows.fieldMakesSpec) :=
  OpenClaim.holds_of_wide 4 Tryz.f4 rfl rfl rfl rfl rfl rfl rfl ⟨rfl, rfl, rfl, rfl, rfl⟩ rfl rfl rfl rfl rfl (by kernel_rfl) Tryz.func4 (by kernel_rfl)
    (of_decide_eq_true (by kernel_rfl)) (by unfold Func.isWrapper; first | (rw [if_pos (by decide +kernel)]; kernel_rfl) | (rw [if_neg (by decide +kernel)]; exact ⟨rfl, rfl⟩))
    (fun os started H enc _ => lifted os started H enc)

theorem proved : Rows.FieldMakesSaid := over
#print axioms proved
end Go.Proofs.YtbaccghnneidgaaGreat.fieldMakes
