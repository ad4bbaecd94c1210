/- As time goes on no fewer are let go; one whose time is not over stays. No condition. -/
import Derived.Test.YtaniacohimdpiaaHoLaw
import Derived.WalkKit
import Derived.ProofKit
import Derived.OpenShut
import Derived.ChangeOld
import Derived.Below
namespace Go.Proofs.Ytaniacohimdpiaa.holdTime
open Go.ChangeShapes Go.WideShapes Go.ChangeAt Go.RowKit
set_option linter.unusedVariables false

theorem own : ownKnob Try.prog.godebug = none := by kernel_rfl
theorem laidOut : laidOutB Try.prog = true := by kernel_rfl

theorem Row.load {u : World} {g off n m : Nat} {hs : List Ho} {x : Ho} (h : Row u (some ⟨g, off, none⟩) n hs) (hm : m < n) (he : hs.getD m z5 = x) : u.rangeAt g (off + m * 5) (vals x.l) := by
  obtain ⟨b, o, e, hr⟩ := h.at hm
  injection e with e
  injection e with e1 e2
  subst e1; subst e2; subst he
  exact hr m hm
theorem same_eq (A B : Option Addr) (n c m d : Nat) (xs ys : List Ho) (r : Bool) (hr : sameL xs ys = r) (w : World) (hd : Row w A n xs) (hf : Row w B m ys) :
    Calls Try.prog 25 #[.slice A n c, .slice B m d] w fun e w' => e = .returned (.bool r) ∧ Below w.heap.size w w' := by subst hr; exact same_any A B n c m d xs ys w hd hf
theorem over_set {k now : Int} {h : Ho} : overB k now (setS h 3) = false := by simp [overB, setS]
theorem over_later {k now later : Int} {h : Ho} (hn : now ≤ later) (h1 : overB k now h = true) : overB k later h = true := by
  simp only [overB, Bool.and_eq_true, beq_iff_eq, decide_eq_true_eq] at *
  omega
theorem goes_goes {k now later : Int} (hn : now ≤ later) (h : Ho) : goes k later (goes k now h) = goes k later h := by
  unfold goes
  cases h1 : overB k now h with
  | true => rw [if_pos rfl, over_set, over_later hn h1]; rfl
  | false => rfl
theorem map_getD {l : List Ho} {f : Ho → Ho} {m : Nat} (hm : m < l.length) : (l.map f).getD m z5 = f (l.getD m z5) := by
  rw [getD_get (by simpa using hm), getD_get hm, List.getElem_map]
theorem right_goes {k now : Int} {h : Ho} (hr : rightH h = true) : rightH (goes k now h) = true := by
  have h' := rightH_iff.1 hr
  unfold goes
  split
  · exact rightH_iff.2 (by simp only [setS]; omega)
  · exact hr
theorem rights_goes {l : List Ho} (k now : Int) (hr : rightsL l = true) : rightsL (l.map (goes k now)) = true := by
  obtain ⟨h1, h2, h3⟩ := rights_iff.1 hr
  refine rights_iff.2 ⟨by simpa using h1, fun x hx => ?_, ?_⟩
  · obtain ⟨y, hy, rfl⟩ := List.mem_map.1 hx
    exact right_goes (h2 y hy)
  · rw [List.pairwise_map]
    refine h3.imp fun {a b} h => ?_
    unfold AH at *
    rw [(goes_name k now a).1, (goes_name k now a).2.1, (goes_name k now b).1, (goes_name k now b).2.1]
    exact h
theorem cnt_time {l : List Ho} {k now later : Int} (hn : now ≤ later) : ∀ m, m ≤ l.length → cntTo l k now m + cntTo (l.map (goes k now)) k later m = cntTo l k later m
  | 0, _ => rfl
  | m + 1, hm => by
    have ih := cnt_time (l := l) (k := k) hn m (by omega)
    rw [cntTo, cntTo, cntTo, map_getD (by omega)]
    generalize l.getD m z5 = x
    cases h1 : overB k now x with
    | true =>
      have e1 : goes k now x = setS x 3 := by rw [goes, if_pos h1]
      rw [e1, over_set, over_later hn h1]
      simp only [if_true, Bool.false_eq_true, if_false]
      omega
    | false =>
      have e1 : goes k now x = x := by rw [goes, if_neg (by rw [h1]; decide)]
      rw [e1]
      simp only [Bool.false_eq_true, if_false]
      split <;> omega
theorem exp_time {l : List Ho} {k now later : Int} (hn : now ≤ later) : expL (expL l k now) k later = expL l k later ∧ expN l k later = expN l k now + expN (expL l k now) k later := by
  cases hr : rightsL l with
  | false =>
    have e : ∀ t, expL l k t = l := fun t => by rw [expL, hr]; rfl
    have f : ∀ t, expN l k t = 0 := fun t => by rw [expN, hr]; rfl
    rw [e, e, f, f]
    exact ⟨rfl, rfl⟩
  | true =>
    have e : ∀ t, expL l k t = l.map (goes k t) := fun t => by rw [expL, hr]; rfl
    have f : ∀ t, expN l k t = cntTo l k t l.length := fun t => by rw [expN, hr]; rfl
    have hr2 := rights_goes k now hr
    rw [e, e, f, f]
    refine ⟨?_, ?_⟩
    · rw [expL, hr2, if_pos rfl, List.map_map]
      apply List.map_congr_left
      intro x _
      exact goes_goes hn x
    · rw [expN, hr2, if_pos rfl, List.length_map, cnt_time hn _ (Nat.le_refl _)]
theorem expN_range (l : List Ho) (k now : Int) : 0 ≤ expN l k now ∧ expN l k now ≤ l.length := by
  unfold expN
  split
  · exact cntTo_range l k now l.length
  · omega
theorem exp_one {l : List Ho} {k now : Int} {m : Nat} (hm : m < l.length) (h : (expL l k now).getD m z5 ≠ l.getD m z5) : overB k now (l.getD m z5) = true := by
  cases hr : rightsL l with
  | false => rw [expL, hr] at h; exact absurd rfl h
  | true =>
    rw [expL, hr, if_pos rfl, map_getD hm, goes] at h
    cases ho : overB k now (l.getD m z5) with
    | true => rfl
    | false => rw [ho, if_neg (by decide)] at h; exact absurd rfl h

set_option maxRecDepth 100000 in
set_option maxHeartbeats 4000000 in
theorem walk (w : World) (A0 : Option Addr) (n0 c0 : Nat) (x0 : List Ho) (hd0 : Came w A0 n0 x0) (a1 : Int) (w1 : (Lit.int .i64 a1).wf = true) (a2 : Int) (w2 : (Lit.int .i64 a2).wf = true) (a3 : Int) (w3 : (Lit.int .i64 a3).wf = true) :
    Calls Try.prog 9 #[.slice A0 n0 c0, .int .i64 a1, .int .i64 a2, .int .i64 a3] w fun e w' => e = .returned (.bool true) ∧ Below w.heap.size w w' := by
  by_cases h40 : n0 ≤ 40
  · have hrow := hd0.row (by omega)
    have HFEW := Lib.hid (few1 (A := A0) (c := c0) h40)
    have HL := Lib.hid hrow.1
    have HK := Lib.hid (LawS.start (w := w) (rows := [(A0, n0, x0)]) (by simpa using hrow))
    clear hd0 hrow
    by_cases hnl : a3 < a2
    · have g1 : decide (a3 < a2) = true := by simp [hnl]
      go_enter Try.func9, Try.ntmps9
      go_wp2_with (first
        | (with_reducible refine many_one HK.out rfl _ rfl rfl ?_; intro bq u hk hm; have HM := Lib.hid hm; clear hm; clear HK; have HK := Lib.hid hk; clear hk)
        | (go_at_call 10; (with_reducible refine (few_one _ _ _ _ _ HFEW.out _ HM.out).mono ?_); rintro e u ⟨rfl, rfl⟩)
        | (with_reducible refine gtr_want g1 _ _ _ rfl rfl rfl rfl ?_)
        | (go_at_call 11; (with_reducible refine (awake_any _).mono ?_); rintro e u ⟨rfl, hb⟩; have hk := HK.out.call hb; clear hb; clear HK; have HK := Lib.hid hk; clear hk))
      go_ret
      exact ⟨rfl, HK.out.bel⟩
    · have g1 : decide (a3 < a2) = false := by simp; omega
      obtain ⟨t1, t2⟩ := exp_time (l := x0) (k := a1) (now := a2) (later := a3) (by omega)
      have r1 := expN_range x0 a1 a2
      have r2 := expN_range (expL x0 a1 a2) a1 a3
      rw [expL_len] at r2
      have hone := fun m hm => exp_one (l := x0) (k := a1) (now := a2) (m := m) hm
      generalize hN1 : expN x0 a1 a2 = N1 at t2 r1
      generalize hR1 : expL x0 a1 a2 = R1 at t1 t2 r2 hone
      generalize hN2 : expN R1 a1 a3 = N2 at t2 r2
      generalize hR2 : expL R1 a1 a3 = R2 at t1
      have HN1 := Lib.hid hN1; have HN2 := Lib.hid hN2; have HR1 := Lib.hid hR1; have HR2 := Lib.hid hR2
      have HN3 := Lib.hid t2; have HR3 := Lib.hid t1.symm
      have HONE := Lib.hid hone
      have hl := HL.out
      have b1 : 0 ≤ N1 := r1.1
      have b2 : N1 ≤ 40 := by omega
      have b3 : 0 ≤ N2 := r2.1
      have b4 : N2 ≤ 40 := by omega
      clear hN1 hN2 hR1 hR2 t1 t2 r1 r2 hone hnl hl
      go_enter Try.func9, Try.ntmps9
      go_wp2_with (first
        | (with_reducible refine many_one HK.out rfl _ rfl rfl ?_; intro bq u hk hm; have HM := Lib.hid hm; clear hm; clear HK; have HK := Lib.hid hk; clear hk)
        | (go_at_call 10; (with_reducible refine (few_one _ _ _ _ _ HFEW.out _ HM.out).mono ?_); rintro e u ⟨rfl, rfl⟩)
        | (with_reducible refine gtr_want g1 _ _ _ rfl rfl rfl rfl ?_)
        | (go_at_call 23; (with_reducible refine (expire_row _ _ _ _ _ a2 _ (HK.out.get 0 rfl) N1 R1 HN1.out HR1.out).mono ?_); rintro e u ⟨Aa, ca, rfl, hr, hb⟩; have hk := HK.out.add hb hr; clear hr hb; clear HK; have HK := Lib.hid hk; clear hk)
        | (go_at_call 23; (with_reducible refine (expire_row _ _ _ _ _ a3 _ (HK.out.get 0 rfl) N2 R2 HN2.out HR2.out).mono ?_); rintro e u ⟨Ab, cb, rfl, hr, hb⟩; have hk := HK.out.add hb hr; clear hr hb; clear HK; have HK := Lib.hid hk; clear hk)
        | (go_at_call 23; (with_reducible refine (expire_row _ _ _ _ _ a3 _ (HK.out.get 2 rfl) (N1 + N2) R2 HN3.out HR3.out).mono ?_); rintro e u ⟨Ac, cc, rfl, hr, hb⟩; have hk := HK.out.add hb hr; clear hr hb; clear HK; have HK := Lib.hid hk; clear hk)
        | (go_at_call 25; (with_reducible refine (same_eq _ _ _ _ _ _ _ _ _ (same_refl R2) _ (HK.out.get 1 rfl) (HK.out.get 0 rfl)).mono ?_); rintro e u ⟨rfl, hb⟩; have hk := HK.out.call hb; clear hb; clear HK; have HK := Lib.hid hk; clear hk))
      go_loopw [68] (fun i wr => ∃ m : Nat, m ≤ n0 ∧ i = .int .i64 m ∧ LawS w [] [(Ac, n0, R2), (Ab, n0, R2), (Aa, n0, R1), (A0, n0, x0)] wr) (fun i _ => n0 - (intOf i).toNat)
      case atStart => exact ⟨0, by omega, rfl, HK.out⟩
      case round =>
        obtain ⟨m, hm, rfl, hk⟩ := hrel
        clear HK
        have HK := Lib.hid hk
        clear hk
        by_cases hlt : m < n0
        · obtain ⟨b, off, rfl, hr⟩ := (HK.out.get 3 rfl).at hlt
          clear hr
          obtain ⟨ga, oa, rfl, hr⟩ := (HK.out.get 2 rfl).at hlt
          clear hr
          have hon := HONE.out m (by have := HL.out; omega)
          obtain ⟨h, hh⟩ : ∃ h, x0.getD m z5 = h := ⟨_, rfl⟩
          obtain ⟨x, hx⟩ : ∃ x, R1.getD m z5 = x := ⟨_, rfl⟩
          rw [hh, hx] at hon
          have HHE := Lib.hid hh; have HXE := Lib.hid hx
          clear hh hx
          have i1 : (0 : Int) ≤ (m : Int) := by omega
          have i2 : (m : Int) < (n0 : Int) := by omega
          clear HFEW g1
          cases hq : (x.l == h.l) with
          | true =>
            have HQ := Lib.hid hq
            clear hq hon
            go_wp2_with (first
              | (with_reducible refine load_hold (Row.load (HK.out.get 3 rfl) hlt HHE.out) _ rfl rfl rfl ?_)
              | (with_reducible refine alloc_zero HK.out.keep 5 h_zero rfl rfl ?_; intro bh u hn0 hk0 hb; have hk := HK.out.alloc hn0 hk0 hb; clear hn0 hk0 hb; clear HK; have HK := Lib.hid hk; clear hk)
              | (with_reducible refine store_all HK.out.keep 0 5 h_info rfl rfl _ _ rfl rfl rfl rfl (Ho.len _) (zer_length 5) ?_; intro u hk0 hs0; simp only [List.set_cons_zero] at hk0; have hk := HK.out.store hk0 hs0; clear hk0 hs0; clear HK; have HK := Lib.hid hk; clear hk))
            refine Draws.start (S := fun u => LawS w [(bh, 26, h.l)] [(Ac, n0, R2), (Ab, n0, R2), (some ⟨ga, oa, none⟩, n0, R1), (some ⟨b, off, none⟩, n0, x0)] u) (n := 23) 23 rfl (by kernel_rfl) ?_
            have HS := Lib.hid (show (fun u => LawS w [(bh, 26, h.l)] [(Ac, n0, R2), (Ab, n0, R2), (some ⟨ga, oa, none⟩, n0, R1), (some ⟨b, off, none⟩, n0, x0)] u) _ from HK.out.drew)
            refine Draws.take 0 (v := ?v1) HS.out rfl (by kernel_rfl) (fun _ _ _ h => h) (Or.inl ⟨rfl, ?h1⟩) ?r1
            case h1 => intro w' hw'; go_simp; (try with_reducible rfl)
            (try simp only [Act.put, List.setIfInBounds_toArray, List.set_cons_zero, List.set_cons_succ])
            refine Draws.take 1 (v := ?v2) HS.out rfl (by kernel_rfl) (fun _ _ _ h => h) (Or.inl ⟨rfl, ?h2⟩) ?r2
            case h2 => intro w' hw'; go_simp; (try with_reducible rfl)
            (try simp only [Act.put, List.setIfInBounds_toArray, List.set_cons_zero, List.set_cons_succ])
            refine Draws.take 2 (v := ?v3) HS.out rfl (by kernel_rfl) (fun _ _ _ h => h) (Or.inl ⟨rfl, ?h3⟩) ?r3
            case h3 => intro w' hw'; go_simp; (try with_reducible rfl)
            (try simp only [Act.put, List.setIfInBounds_toArray, List.set_cons_zero, List.set_cons_succ])
            refine Draws.take 3 HS.out rfl (by kernel_rfl) (fun _ _ _ h => h) (yield_hold (fun _ hu => Row.load (hu.get 2 rfl) hlt HXE.out) _ rfl rfl rfl) ?_
            (try simp only [Act.put, List.setIfInBounds_toArray, List.set_cons_zero, List.set_cons_succ])
            refine Draws.take 4 HS.out rfl (by kernel_rfl) (fun _ _ _ h => h) (yield_all (fun _ hu => hu.keep) 0 5 Try.underlying26 rfl h_info rfl _ rfl rfl rfl (Ho.len _)) ?_
            (try simp only [Act.put, List.setIfInBounds_toArray, List.set_cons_zero, List.set_cons_succ])
            refine Draws.take 5 HS.out rfl (by kernel_rfl) (fun _ _ _ h => h) (yield_neqh HQ.out _ _ _ rfl rfl rfl rfl) ?_
            (try simp only [Act.put, List.setIfInBounds_toArray, List.set_cons_zero, List.set_cons_succ])
            refine Draws.take 6 (v := ?v4) HS.out rfl (by kernel_rfl) (fun _ _ _ h => h) (Or.inl ⟨rfl, ?h4⟩) ?r4
            case h4 => intro w' hw'; go_simp; (try with_reducible rfl)
            (try simp only [Act.put, List.setIfInBounds_toArray, List.set_cons_zero, List.set_cons_succ])
            refine Draws.take 7 HS.out rfl (by kernel_rfl) (fun _ _ _ h => h) (Or.inr ⟨rfl, rfl⟩) ?_
            (try simp only [Act.put, List.setIfInBounds_toArray, List.set_cons_zero, List.set_cons_succ])
            refine Draws.take 8 HS.out rfl (by kernel_rfl) (fun _ _ _ h => h) (Or.inr ⟨rfl, rfl⟩) ?_
            (try simp only [Act.put, List.setIfInBounds_toArray, List.set_cons_zero, List.set_cons_succ])
            refine Draws.take 9 HS.out rfl (by kernel_rfl) (fun _ _ _ h => h) (Or.inr ⟨rfl, rfl⟩) ?_
            (try simp only [Act.put, List.setIfInBounds_toArray, List.set_cons_zero, List.set_cons_succ])
            refine Draws.take 10 HS.out rfl (by kernel_rfl) (fun _ _ _ h => h) (Or.inr ⟨rfl, rfl⟩) ?_
            (try simp only [Act.put, List.setIfInBounds_toArray, List.set_cons_zero, List.set_cons_succ])
            refine Draws.take 11 HS.out rfl (by kernel_rfl) (fun _ _ _ h => h) (Or.inr ⟨rfl, rfl⟩) ?_
            (try simp only [Act.put, List.setIfInBounds_toArray, List.set_cons_zero, List.set_cons_succ])
            refine Draws.take 12 HS.out rfl (by kernel_rfl) (fun _ _ _ h => h) (Or.inr ⟨rfl, rfl⟩) ?_
            (try simp only [Act.put, List.setIfInBounds_toArray, List.set_cons_zero, List.set_cons_succ])
            refine Draws.take 13 HS.out rfl (by kernel_rfl) (fun _ _ _ h => h) (Or.inr ⟨rfl, rfl⟩) ?_
            (try simp only [Act.put, List.setIfInBounds_toArray, List.set_cons_zero, List.set_cons_succ])
            refine Draws.take 14 HS.out rfl (by kernel_rfl) (fun _ _ _ h => h) (Or.inr ⟨rfl, rfl⟩) ?_
            (try simp only [Act.put, List.setIfInBounds_toArray, List.set_cons_zero, List.set_cons_succ])
            refine Draws.take 15 HS.out rfl (by kernel_rfl) (fun _ _ _ h => h) (Or.inr ⟨rfl, rfl⟩) ?_
            (try simp only [Act.put, List.setIfInBounds_toArray, List.set_cons_zero, List.set_cons_succ])
            refine Draws.take 16 HS.out rfl (by kernel_rfl) (fun _ _ _ h => h) (Or.inr ⟨rfl, rfl⟩) ?_
            (try simp only [Act.put, List.setIfInBounds_toArray, List.set_cons_zero, List.set_cons_succ])
            refine Draws.take 17 HS.out rfl (by kernel_rfl) (fun _ _ _ h => h) (Or.inr ⟨rfl, rfl⟩) ?_
            (try simp only [Act.put, List.setIfInBounds_toArray, List.set_cons_zero, List.set_cons_succ])
            refine Draws.take 18 HS.out rfl (by kernel_rfl) (fun _ _ _ h => h) (Or.inr ⟨rfl, rfl⟩) ?_
            (try simp only [Act.put, List.setIfInBounds_toArray, List.set_cons_zero, List.set_cons_succ])
            refine Draws.take 19 HS.out rfl (by kernel_rfl) (fun _ _ _ h => h) (Or.inr ⟨rfl, rfl⟩) ?_
            (try simp only [Act.put, List.setIfInBounds_toArray, List.set_cons_zero, List.set_cons_succ])
            refine Draws.take 20 HS.out rfl (by kernel_rfl) (fun _ _ _ h => h) (Or.inr ⟨rfl, rfl⟩) ?_
            (try simp only [Act.put, List.setIfInBounds_toArray, List.set_cons_zero, List.set_cons_succ])
            refine Draws.take 21 HS.out rfl (by kernel_rfl) (fun _ _ _ h => h) (Or.inr ⟨rfl, rfl⟩) ?_
            (try simp only [Act.put, List.setIfInBounds_toArray, List.set_cons_zero, List.set_cons_succ])
            refine Draws.take 22 (v := ?v5) HS.out rfl (by kernel_rfl) (fun _ _ _ h => h) (Or.inl ⟨rfl, ?h5⟩) ?r5
            case h5 => intro w' hw'; go_simp; (try with_reducible rfl)
            (try simp only [Act.put, List.setIfInBounds_toArray, List.set_cons_zero, List.set_cons_succ])
            refine Draws.done (by kernel_rfl) ?_
            go_wp2
            go_roundw
            case rel => exact ⟨m + 1, by omega, by go_num, HS.out.tail⟩
            case measure => simp [intOf]; omega
          | false =>
            have HQ := Lib.hid hq
            have ho := hon (fun e => by subst e; simp at hq)
            simp only [overB, Bool.and_eq_true, beq_iff_eq, decide_eq_true_eq] at ho
            have HQ1 := Lib.hid (show (h.s != 1) = false by simp; omega)
            have HQ2 := Lib.hid (show decide (a2 ≤ h.d) = false by simp; omega)
            have HQ3 := Lib.hid (show (h.r != a1) = false by simp; omega)
            clear hq hon ho
            go_wp2_with (first
              | (with_reducible refine load_hold (Row.load (HK.out.get 3 rfl) hlt HHE.out) _ rfl rfl rfl ?_)
              | (with_reducible refine alloc_zero HK.out.keep 5 h_zero rfl rfl ?_; intro bh u hn0 hk0 hb; have hk := HK.out.alloc hn0 hk0 hb; clear hn0 hk0 hb; clear HK; have HK := Lib.hid hk; clear hk)
              | (with_reducible refine store_all HK.out.keep 0 5 h_info rfl rfl _ _ rfl rfl rfl rfl (Ho.len _) (zer_length 5) ?_; intro u hk0 hs0; simp only [List.set_cons_zero] at hk0; have hk := HK.out.store hk0 hs0; clear hk0 hs0; clear HK; have HK := Lib.hid hk; clear hk))
            refine Draws.start (S := fun u => LawS w [(bh, 26, h.l)] [(Ac, n0, R2), (Ab, n0, R2), (some ⟨ga, oa, none⟩, n0, R1), (some ⟨b, off, none⟩, n0, x0)] u) (n := 23) 23 rfl (by kernel_rfl) ?_
            have HS := Lib.hid (show (fun u => LawS w [(bh, 26, h.l)] [(Ac, n0, R2), (Ab, n0, R2), (some ⟨ga, oa, none⟩, n0, R1), (some ⟨b, off, none⟩, n0, x0)] u) _ from HK.out.drew)
            refine Draws.take 0 (v := ?v6) HS.out rfl (by kernel_rfl) (fun _ _ _ h => h) (Or.inl ⟨rfl, ?h6⟩) ?r6
            case h6 => intro w' hw'; go_simp; (try with_reducible rfl)
            (try simp only [Act.put, List.setIfInBounds_toArray, List.set_cons_zero, List.set_cons_succ])
            refine Draws.take 1 (v := ?v7) HS.out rfl (by kernel_rfl) (fun _ _ _ h => h) (Or.inl ⟨rfl, ?h7⟩) ?r7
            case h7 => intro w' hw'; go_simp; (try with_reducible rfl)
            (try simp only [Act.put, List.setIfInBounds_toArray, List.set_cons_zero, List.set_cons_succ])
            refine Draws.take 2 (v := ?v8) HS.out rfl (by kernel_rfl) (fun _ _ _ h => h) (Or.inl ⟨rfl, ?h8⟩) ?r8
            case h8 => intro w' hw'; go_simp; (try with_reducible rfl)
            (try simp only [Act.put, List.setIfInBounds_toArray, List.set_cons_zero, List.set_cons_succ])
            refine Draws.take 3 HS.out rfl (by kernel_rfl) (fun _ _ _ h => h) (yield_hold (fun _ hu => Row.load (hu.get 2 rfl) hlt HXE.out) _ rfl rfl rfl) ?_
            (try simp only [Act.put, List.setIfInBounds_toArray, List.set_cons_zero, List.set_cons_succ])
            refine Draws.take 4 HS.out rfl (by kernel_rfl) (fun _ _ _ h => h) (yield_all (fun _ hu => hu.keep) 0 5 Try.underlying26 rfl h_info rfl _ rfl rfl rfl (Ho.len _)) ?_
            (try simp only [Act.put, List.setIfInBounds_toArray, List.set_cons_zero, List.set_cons_succ])
            refine Draws.take 5 HS.out rfl (by kernel_rfl) (fun _ _ _ h => h) (yield_neqh HQ.out _ _ _ rfl rfl rfl rfl) ?_
            (try simp only [Act.put, List.setIfInBounds_toArray, List.set_cons_zero, List.set_cons_succ])
            refine Draws.take 6 (v := ?v9) HS.out rfl (by kernel_rfl) (fun _ _ _ h => h) (Or.inl ⟨rfl, ?h9⟩) ?r9
            case h9 => intro w' hw'; go_simp; (try with_reducible rfl)
            (try simp only [Act.put, List.setIfInBounds_toArray, List.set_cons_zero, List.set_cons_succ])
            refine Draws.take 7 (v := ?v10) HS.out rfl (by kernel_rfl) (fun _ _ _ h => h) (Or.inl ⟨rfl, ?h10⟩) ?r10
            case h10 => intro w' hw'; go_simp; (try with_reducible rfl)
            (try simp only [Act.put, List.setIfInBounds_toArray, List.set_cons_zero, List.set_cons_succ])
            refine Draws.take 8 HS.out rfl (by kernel_rfl) (fun _ _ _ h => h) (yield_int (fun _ hu => (hu.keep.get 0 rfl).five.2.2.2.2) _ rfl rfl rfl) ?_
            (try simp only [Act.put, List.setIfInBounds_toArray, List.set_cons_zero, List.set_cons_succ])
            refine Draws.take 9 HS.out rfl (by kernel_rfl) (fun _ _ _ h => h) (yield_neq HQ1.out _ _ _ rfl rfl rfl rfl) ?_
            (try simp only [Act.put, List.setIfInBounds_toArray, List.set_cons_zero, List.set_cons_succ])
            refine Draws.take 10 (v := ?v11) HS.out rfl (by kernel_rfl) (fun _ _ _ h => h) (Or.inl ⟨rfl, ?h11⟩) ?r11
            case h11 => intro w' hw'; go_simp; (try with_reducible rfl)
            (try simp only [Act.put, List.setIfInBounds_toArray, List.set_cons_zero, List.set_cons_succ])
            refine Draws.take 11 (v := ?v12) HS.out rfl (by kernel_rfl) (fun _ _ _ h => h) (Or.inl ⟨rfl, ?h12⟩) ?r12
            case h12 => intro w' hw'; go_simp; (try with_reducible rfl)
            (try simp only [Act.put, List.setIfInBounds_toArray, List.set_cons_zero, List.set_cons_succ])
            refine Draws.take 12 HS.out rfl (by kernel_rfl) (fun _ _ _ h => h) (yield_int (fun _ hu => (hu.keep.get 0 rfl).five.2.2.2.1) _ rfl rfl rfl) ?_
            (try simp only [Act.put, List.setIfInBounds_toArray, List.set_cons_zero, List.set_cons_succ])
            refine Draws.take 13 (v := ?v13) HS.out rfl (by kernel_rfl) (fun _ _ _ h => h) (Or.inl ⟨rfl, ?h13⟩) ?r13
            case h13 => intro w' hw'; go_simp; (try with_reducible rfl)
            (try simp only [Act.put, List.setIfInBounds_toArray, List.set_cons_zero, List.set_cons_succ])
            refine Draws.take 14 HS.out rfl (by kernel_rfl) (fun _ _ _ h => h) (yield_geq HQ2.out _ _ _ rfl rfl rfl rfl) ?_
            (try simp only [Act.put, List.setIfInBounds_toArray, List.set_cons_zero, List.set_cons_succ])
            refine Draws.take 15 (v := ?v14) HS.out rfl (by kernel_rfl) (fun _ _ _ h => h) (Or.inl ⟨rfl, ?h14⟩) ?r14
            case h14 => intro w' hw'; go_simp; (try with_reducible rfl)
            (try simp only [Act.put, List.setIfInBounds_toArray, List.set_cons_zero, List.set_cons_succ])
            refine Draws.take 16 (v := ?v15) HS.out rfl (by kernel_rfl) (fun _ _ _ h => h) (Or.inl ⟨rfl, ?h15⟩) ?r15
            case h15 => intro w' hw'; go_simp; (try with_reducible rfl)
            (try simp only [Act.put, List.setIfInBounds_toArray, List.set_cons_zero, List.set_cons_succ])
            refine Draws.take 17 (v := ?v16) HS.out rfl (by kernel_rfl) (fun _ _ _ h => h) (Or.inl ⟨rfl, ?h16⟩) ?r16
            case h16 => intro w' hw'; go_simp; (try with_reducible rfl)
            (try simp only [Act.put, List.setIfInBounds_toArray, List.set_cons_zero, List.set_cons_succ])
            refine Draws.take 18 HS.out rfl (by kernel_rfl) (fun _ _ _ h => h) (yield_int (fun _ hu => (hu.keep.get 0 rfl).five.1) _ rfl rfl rfl) ?_
            (try simp only [Act.put, List.setIfInBounds_toArray, List.set_cons_zero, List.set_cons_succ])
            refine Draws.take 19 (v := ?v17) HS.out rfl (by kernel_rfl) (fun _ _ _ h => h) (Or.inl ⟨rfl, ?h17⟩) ?r17
            case h17 => intro w' hw'; go_simp; (try with_reducible rfl)
            (try simp only [Act.put, List.setIfInBounds_toArray, List.set_cons_zero, List.set_cons_succ])
            refine Draws.take 20 HS.out rfl (by kernel_rfl) (fun _ _ _ h => h) (yield_neq HQ3.out _ _ _ rfl rfl rfl rfl) ?_
            (try simp only [Act.put, List.setIfInBounds_toArray, List.set_cons_zero, List.set_cons_succ])
            refine Draws.take 21 (v := ?v18) HS.out rfl (by kernel_rfl) (fun _ _ _ h => h) (Or.inl ⟨rfl, ?h18⟩) ?r18
            case h18 => intro w' hw'; go_simp; (try with_reducible rfl)
            (try simp only [Act.put, List.setIfInBounds_toArray, List.set_cons_zero, List.set_cons_succ])
            refine Draws.take 22 (v := ?v19) HS.out rfl (by kernel_rfl) (fun _ _ _ h => h) (Or.inl ⟨rfl, ?h19⟩) ?r19
            case h19 => intro w' hw'; go_simp; (try with_reducible rfl)
            (try simp only [Act.put, List.setIfInBounds_toArray, List.set_cons_zero, List.set_cons_succ])
            refine Draws.done (by kernel_rfl) ?_
            go_wp2
            go_roundw
            case rel => exact ⟨m + 1, by omega, by go_num, HS.out.tail⟩
            case measure => simp [intOf]; omega
        · obtain rfl : m = n0 := by omega
          go_wp2_with (first
            | (go_at_call 11; (with_reducible refine (awake_any _).mono ?_); rintro e u ⟨rfl, hb⟩; have hk := HK.out.call hb; clear hb; clear HK; have HK := Lib.hid hk; clear hk))
          go_ret
          exact ⟨rfl, HK.out.bel⟩
  · have HFEW := Lib.hid (few1n (A := A0) (c := c0) h40)
    have HK := Lib.hid (LawS.start (w := w) (rows := []) (by simp))
    clear hd0 h40
    go_enter Try.func9, Try.ntmps9
    go_wp2_with (first
      | (with_reducible refine many_one HK.out rfl _ rfl rfl ?_; intro bq u hk hm; have HM := Lib.hid hm; clear hm; clear HK; have HK := Lib.hid hk; clear hk)
      | (go_at_call 10; (with_reducible refine (few_one _ _ _ _ _ HFEW.out _ HM.out).mono ?_); rintro e u ⟨rfl, rfl⟩)
      | (go_at_call 11; (with_reducible refine (awake_any _).mono ?_); rintro e u ⟨rfl, hb⟩; have hk := HK.out.call hb; clear hb; clear HK; have HK := Lib.hid hk; clear hk))
    go_ret
    exact ⟨rfl, HK.out.bel⟩

set_option maxRecDepth 100000 in
theorem lifted (os : Os) (started : os.Started) (H : Type) (enc : TypeId × Value → H) :
    ReturnsInHanded {} Try.checked os 9 .any (Rows.holdTimeSpec.pre6 enc Try.prog Try.f9 Rows.holdTimeRow.domain false) (Rows.holdTimeSpec.post enc Try.prog Try.f9 false true false false) := by
  refine returnsInHanded_of_change (C := Try.checked) own started (by kernel_rfl) Try.func9
    (ChangeSpec.witness6 (enc := enc) (C := Try.checked) false ⟨#[], #[.slice none 0 0, .int .i64 0, .int .i64 0, .int .i64 0], []⟩ 12 (by kernel_rfl) (by kernel_rfl) (by kernel_rfl) (by kernel_rfl)) ?_
  intro W base args ds gs before hval0 hW hcnd _
  have hval : ∀ (j : Nat) t v, Try.f9.params[j]? = some t → args[j]? = some v → Value.okWide Try.prog W .any base t v := hval0
  have hW' := hW
  obtain ⟨p, q, hA0, hV, rfl, hfz, hnd⟩ := hW
  have hA : DataW.TrodAll enc Try.prog W 0 (fun _ => true) true Try.f9.params.toList args.toList ds p := hA0
  rw [Try.params9] at hA hval
  obtain ⟨v0, vs0, d0, ds0, p0, q0, hargs, rfl, rfl, h0, r0⟩ := trodAll_cons hA
  obtain ⟨v1, vs1, d1, ds1, p1, q1, rfl, rfl, rfl, h1, r1⟩ := trodAll_cons r0
  obtain ⟨v2, vs2, d2, ds2, p2, q2, rfl, rfl, rfl, h2, r2⟩ := trodAll_cons r1
  obtain ⟨v3, vs3, d3, ds3, p3, q3, rfl, rfl, rfl, h3, r3⟩ := trodAll_cons r2
  obtain ⟨rfl, rfl, rfl⟩ := trodAll_nil r3
  obtain rfl : args = #[v0, v1, v2, v3] := by cases args; simp_all
  obtain ⟨rfl, rfl⟩ := trodVars_none hV
  have k0 := h0
  have lt0 : ∀ x ∈ p0, x.block < W.heap.size := by obtain ⟨m, hm⟩ := k0; exact DataW.trod_lt m _ _ _ hm
  obtain ⟨A0, n0, c0, x0, rfl, hd0⟩ := open_holds (hval 0 22 v0 rfl rfl) h0
  have k1 := h1
  have lt1 : ∀ x ∈ p1, x.block < W.heap.size := by obtain ⟨m, hm⟩ := k1; exact DataW.trod_lt m _ _ _ hm
  obtain ⟨a1, rfl, rfl, rfl, w1⟩ := open_int Try.underlying3 (hval 1 3 v1 rfl rfl) h1
  have k2 := h2
  have lt2 : ∀ x ∈ p2, x.block < W.heap.size := by obtain ⟨m, hm⟩ := k2; exact DataW.trod_lt m _ _ _ hm
  obtain ⟨a2, rfl, rfl, rfl, w2⟩ := open_int Try.underlying3 (hval 2 3 v2 rfl rfl) h2
  have k3 := h3
  have lt3 : ∀ x ∈ p3, x.block < W.heap.size := by obtain ⟨m, hm⟩ := k3; exact DataW.trod_lt m _ _ _ hm
  obtain ⟨a3, rfl, rfl, rfl, w3⟩ := open_int Try.underlying3 (hval 3 3 v3 rfl rfl) h3
  clear hA0 hval0
  refine (walk W A0 n0 c0 x0 hd0 a1 w1 a2 w2 a3 w3).mono fun e W' ⟨he, bel⟩ => ?_
  subst he
  exact ⟨_, rfl, _, _, _, [], _, [], hW', trodAll_mk1 (shut_bool Try.underlying4 _), (trodAll_cons_mk (Below.trod laidOut (by kernel_rfl) (of_decide_eq_true (by kernel_rfl)) k0 bel lt0) (trodAll_cons_mk (Below.trod laidOut (by kernel_rfl) (of_decide_eq_true (by kernel_rfl)) k1 bel lt1) (trodAll_cons_mk (Below.trod laidOut (by kernel_rfl) (of_decide_eq_true (by kernel_rfl)) k2 bel lt2) (trodAll_cons_mk (Below.trod laidOut (by kernel_rfl) (of_decide_eq_true (by kernel_rfl)) k3 bel lt3) trodAll_mk0)))), rfl, bel.frame _, fun h => by cases h⟩

theorem over : Rows.holdTimeRow.holds Try.pinned (OpenSpec.ofChange Rows.holdTimeSpec) :=
  OpenClaim.holds_of_wide 9 Try.f9 rfl rfl rfl rfl rfl rfl rfl ⟨rfl, rfl, rfl, rfl, rfl⟩ rfl rfl rfl rfl rfl (by kernel_rfl) Try.func9 (by kernel_rfl)
    (of_decide_eq_true (by kernel_rfl)) (by unfold Func.isWrapper; first | (rw [if_pos (by decide +kernel)]; kernel_rfl) | (rw [if_neg (by decide +kernel)]; exact ⟨rfl, rfl⟩))
    (fun os started H enc _ => lifted os started H enc)

theorem proved : Rows.HoldTimeSaid := over
#print axioms proved
end Go.Proofs.Ytaniacohimdpiaa.holdTime
