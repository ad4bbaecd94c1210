/- Contracts of hold.Expire, and of what the statements call awake. -/
import Derived.Test.YtbaccghnneidgaaGreatHoAct
namespace Go.Proofs.YtbaccghnneidgaaGreat
set_option maxRecDepth 100000
open Go.ChangeShapes Go.WideShapes Go.ChangeAt Go.RowKit

theorem clone_sl (A : Option Addr) (n c : Nat) (hs : List Ho) (w : World) (hd : Row w A n hs) :
    Calls Tryz.prog 112 #[.slice A n c] w fun e w' => ∃ A1 c1, e = .returned (.slice A1 n c1) ∧ Own w' w.heap.size (.slice A1 n c1) hs ∧ Below w.heap.size w w' :=
  (clone_any A n c hs w hd).mono fun e w' ⟨v, he, ho, hb⟩ => by
    have hl := hd.1
    obtain ⟨A1, c1, e1⟩ := ho.slice
    rw [hl] at e1
    subst e1
    exact ⟨A1, c1, he, ho, hb⟩
theorem own_load {u : World} {base g n cap : Nat} {xs : List Ho} {m : Nat} {h : Ho} (ho : Own u base (.slice (some ⟨g, 0, none⟩) n cap) xs) (hm : m < xs.length) (he : xs.getD m z5 = h) : u.rangeAt g (m * 5) (vals h.l) := by
  subst he; exact ho.range hm
theorem own_some {u : World} {base n cap : Nat} {A1 : Option Addr} {xs : List Ho} (ho : Own u base (.slice A1 n cap) xs) (h0 : 0 < xs.length) : ∃ g, A1 = some ⟨g, 0, none⟩ := by
  obtain ⟨g, cap', e, _⟩ := ho.at h0
  injection e with e1 _ _
  exact ⟨g, e1⟩
theorem cntTo_yes {l : List Ho} {k now : Int} {m : Nat} (h : overBH k now (l.getD m z5) = true) : cntTo l k now (m + 1) = cntTo l k now m + 1 := by rw [cntTo, if_pos h]
theorem cntTo_no {l : List Ho} {k now : Int} {m : Nat} (h : overBH k now (l.getD m z5) = false) : cntTo l k now (m + 1) = cntTo l k now m := by rw [cntTo, if_neg (by rw [h]; decide)]
theorem over_a {k now : Int} {h : Ho} (h1 : (h.r == k) = false) : overBH k now h = false := by rw [overBH, h1, Bool.false_and]
theorem over_b {k now : Int} {h : Ho} (h1 : (h.r == k) = true) (h2 : (h.s == 1) = false) : overBH k now h = false := by rw [overBH, h1, h2, Bool.false_and, Bool.and_false]
theorem over_c {k now : Int} {h : Ho} {r : Bool} (h1 : (h.r == k) = true) (h2 : (h.s == 1) = true) (h3 : decide (h.d < now) = r) : overBH k now h = r := by rw [overBH, h1, h2, h3, Bool.true_and, Bool.true_and]
set_option maxHeartbeats 4000000 in
set_option maxRecDepth 100000 in
theorem expire_any (A : Option Addr) (n c : Nat) (hs : List Ho) (k now : Int) (w : World) (hd : Row w A n hs) :
    Calls Tryz.prog 80 #[.slice A n c, .int .i64 k, .int .i64 now] w fun e w' => ∃ v, e = .returned (.tuple #[v, .int .i64 (expN hs k now)]) ∧ Own w' w.heap.size v (expL hs k now) ∧ Below w.heap.size w w' := by
  have HD := Lib.hid hd; have HL := Lib.hid hd.1; have HNB := Lib.hid hd.2.1; clear hd
  have HK := Lib.hid (KeepR.start w)
  cases hrt : rightsL hs with
  | false =>
    rw [show expN hs k now = 0 by rw [expN, hrt]; rfl, show expL hs k now = hs by rw [expL, hrt]; rfl]
    have HRT := Lib.hid hrt; clear hrt
    go_enter Tryz.func80, Tryz.ntmps80
    go_wp2_with (first
      | (go_at_call 112; (with_reducible refine (clone_sl _ _ _ _ _ (HD.out.below HK.out.bel (Nat.le_refl _))).mono ?_); rintro e u ⟨A1, c1, rfl, ho, hb⟩; have hk := (KeepH.of_keep HK.out).other hb ho; clear ho hb; clear HK; have HK := Lib.hid hk; clear hk)
      | (go_at_call 90; (with_reducible refine (rights_eq _ _ _ _ _ HRT.out _ (HD.out.below HK.out.keep.bel (Nat.le_refl _))).mono ?_); rintro e u ⟨rfl, hb⟩; have hk := HK.out.call hb; clear hb; clear HK; have HK := Lib.hid hk; clear hk))
    go_ret2
    exact ⟨_, rfl, HK.out.own, HK.out.keep.bel⟩
  | true =>
    rw [show expN hs k now = cntTo hs k now hs.length by rw [expN, hrt]; rfl, show expL hs k now = hs.map (goes k now) by rw [expL, hrt]; rfl]
    have HRT := Lib.hid hrt; clear hrt
    go_enter Tryz.func80, Tryz.ntmps80
    go_wp2_with (first
      | (go_at_call 112; (with_reducible refine (clone_sl _ _ _ _ _ (HD.out.below HK.out.bel (Nat.le_refl _))).mono ?_); rintro e u ⟨A1, c1, rfl, ho, hb⟩; have hk := (KeepH.of_keep HK.out).other hb ho; clear ho hb; clear HK; have HK := Lib.hid hk; clear hk)
      | (go_at_call 90; (with_reducible refine (rights_eq _ _ _ _ _ HRT.out _ (HD.out.below HK.out.keep.bel (Nat.le_refl _))).mono ?_); rintro e u ⟨rfl, hb⟩; have hk := HK.out.call hb; clear hb; clear HK; have HK := Lib.hid hk; clear hk))
    go_loopw [9, 20] (fun s i wr => ∃ m : Nat, m ≤ n ∧ i = .int .i64 m ∧ s = .int .i64 (cntTo hs k now m) ∧ KeepH w [] (.slice A1 n c1) (expTo hs k now m) wr) (fun _ i _ => n - (intOf i).toNat)
    case atStart => exact ⟨0, by omega, rfl, rfl, by rw [expTo_zero]; exact HK.out⟩
    case round =>
      obtain ⟨m, hm, rfl, rfl, hk⟩ := hrel
      clear HK
      have HK := Lib.hid hk
      clear hk
      by_cases hlt : m < n
      · have hnb := HNB.out
        obtain ⟨g, rfl⟩ := own_some HK.out.own (by rw [expTo_length, HL.out]; omega)
        obtain ⟨h, hh⟩ : ∃ h, hs.getD m z5 = h := ⟨_, rfl⟩
        have HH := Lib.hid hh
        have HE := Lib.hid (show (expTo hs k now m).getD m z5 = h by rw [expTo_get (by have := HL.out; omega), hh])
        have HMH := Lib.hid (show m < (expTo hs k now m).length by rw [expTo_length, HL.out]; exact hlt)
        clear hh
        have i1 : (0 : Int) ≤ (m : Int) := by omega
        have i2 : (m : Int) < (n : Int) := by omega
        have hct := cntTo_range hs k now m
        generalize hcc : cntTo hs k now m = ct at hct
        have HCC := Lib.hid hcc; clear hcc
        cases h1 : (h.r == k) with
        | false =>
          have HCT := Lib.hid (show cntTo hs k now (m + 1) = ct by rw [cntTo_no (by rw [HH.out]; exact over_a h1), HCC.out])
          have HX := Lib.hid (show expTo hs k now (m + 1) = expTo hs k now m from expTo_no (by have := HL.out; omega) (by rw [HH.out]; exact over_a h1))
          go_wp2_with (first
            | (with_reducible refine load_hold (own_load HK.out.own HMH.out HE.out) _ rfl rfl rfl ?_)
            | (with_reducible refine alloc_zero HK.out.keep 5 h_zero rfl rfl ?_; intro bh u hn0 hk0 hb; have hk := HK.out.of_alloc hn0 hk0 hb; clear hn0 hk0 hb; clear HK; have HK := Lib.hid hk; clear hk)
            | (with_reducible refine store_all HK.out.keep 0 5 h_info rfl rfl _ _ rfl rfl rfl rfl (Ho.len _) (zer_length 5) ?_; intro u hk0 hs0; have hk := HK.out.of_store 0 rfl hk0 hs0; clear hk0 hs0; simp only [List.set_cons_zero] at hk; clear HK; have HK := Lib.hid hk; clear hk)
            | (with_reducible refine load_val HK.out.keep 0 rfl _ rfl rfl rfl (Ho.g0 _) (Ho.p0 _) ?_)
            | (with_reducible refine load_val HK.out.keep 0 rfl _ rfl rfl rfl (Ho.g1 _) (Ho.p1 _) ?_)
            | (with_reducible refine load_val HK.out.keep 0 rfl _ rfl rfl rfl (Ho.g2 _) (Ho.p2 _) ?_)
            | (with_reducible refine load_val HK.out.keep 0 rfl _ rfl rfl rfl (Ho.g3 _) (Ho.p3 _) ?_)
            | (with_reducible refine load_val HK.out.keep 0 rfl _ rfl rfl rfl (Ho.g4 _) (Ho.p4 _) ?_)
            | (with_reducible refine load_val_want HK.out.keep 0 _ rfl rfl rfl rfl (Ho.g0 _) (Ho.p0 _) ?_)
            | (with_reducible refine load_val_want HK.out.keep 0 _ rfl rfl rfl rfl (Ho.g1 _) (Ho.p1 _) ?_)
            | (with_reducible refine load_val_want HK.out.keep 0 _ rfl rfl rfl rfl (Ho.g2 _) (Ho.p2 _) ?_)
            | (with_reducible refine load_val_want HK.out.keep 0 _ rfl rfl rfl rfl (Ho.g3 _) (Ho.p3 _) ?_)
            | (with_reducible refine load_val_want HK.out.keep 0 _ rfl rfl rfl rfl (Ho.g4 _) (Ho.p4 _) ?_)
            | (with_reducible refine eql_want h1 _ _ _ rfl rfl rfl rfl ?_))
          go_roundw
          case rel => exact ⟨m + 1, by omega, by go_num, by rw [HCT.out]; try rfl, by rw [HX.out]; exact HK.out.tail⟩
          case measure => simp [intOf]; omega
        | true =>
          cases h2 : (h.s == 1) with
          | false =>
            have HCT := Lib.hid (show cntTo hs k now (m + 1) = ct by rw [cntTo_no (by rw [HH.out]; exact over_b h1 h2), HCC.out])
            have HX := Lib.hid (show expTo hs k now (m + 1) = expTo hs k now m from expTo_no (by have := HL.out; omega) (by rw [HH.out]; exact over_b h1 h2))
            go_wp2_with (first
              | (with_reducible refine load_hold (own_load HK.out.own HMH.out HE.out) _ rfl rfl rfl ?_)
              | (with_reducible refine alloc_zero HK.out.keep 5 h_zero rfl rfl ?_; intro bh u hn0 hk0 hb; have hk := HK.out.of_alloc hn0 hk0 hb; clear hn0 hk0 hb; clear HK; have HK := Lib.hid hk; clear hk)
              | (with_reducible refine store_all HK.out.keep 0 5 h_info rfl rfl _ _ rfl rfl rfl rfl (Ho.len _) (zer_length 5) ?_; intro u hk0 hs0; have hk := HK.out.of_store 0 rfl hk0 hs0; clear hk0 hs0; simp only [List.set_cons_zero] at hk; clear HK; have HK := Lib.hid hk; clear hk)
              | (with_reducible refine load_val HK.out.keep 0 rfl _ rfl rfl rfl (Ho.g0 _) (Ho.p0 _) ?_)
              | (with_reducible refine load_val HK.out.keep 0 rfl _ rfl rfl rfl (Ho.g1 _) (Ho.p1 _) ?_)
              | (with_reducible refine load_val HK.out.keep 0 rfl _ rfl rfl rfl (Ho.g2 _) (Ho.p2 _) ?_)
              | (with_reducible refine load_val HK.out.keep 0 rfl _ rfl rfl rfl (Ho.g3 _) (Ho.p3 _) ?_)
              | (with_reducible refine load_val HK.out.keep 0 rfl _ rfl rfl rfl (Ho.g4 _) (Ho.p4 _) ?_)
              | (with_reducible refine load_val_want HK.out.keep 0 _ rfl rfl rfl rfl (Ho.g0 _) (Ho.p0 _) ?_)
              | (with_reducible refine load_val_want HK.out.keep 0 _ rfl rfl rfl rfl (Ho.g1 _) (Ho.p1 _) ?_)
              | (with_reducible refine load_val_want HK.out.keep 0 _ rfl rfl rfl rfl (Ho.g2 _) (Ho.p2 _) ?_)
              | (with_reducible refine load_val_want HK.out.keep 0 _ rfl rfl rfl rfl (Ho.g3 _) (Ho.p3 _) ?_)
              | (with_reducible refine load_val_want HK.out.keep 0 _ rfl rfl rfl rfl (Ho.g4 _) (Ho.p4 _) ?_)
              | (with_reducible refine eql_want h1 _ _ _ rfl rfl rfl rfl ?_)
              | (with_reducible refine eql_want h2 _ _ _ rfl rfl rfl rfl ?_))
            go_roundw
            case rel => exact ⟨m + 1, by omega, by go_num, by rw [HCT.out]; try rfl, by rw [HX.out]; exact HK.out.tail⟩
            case measure => simp [intOf]; omega
          | true =>
            cases h3 : decide (h.d < now) with
            | false =>
              have HCT := Lib.hid (show cntTo hs k now (m + 1) = ct by rw [cntTo_no (by rw [HH.out]; exact over_c h1 h2 h3), HCC.out])
              have HX := Lib.hid (show expTo hs k now (m + 1) = expTo hs k now m from expTo_no (by have := HL.out; omega) (by rw [HH.out]; exact over_c h1 h2 h3))
              go_wp2_with (first
                | (with_reducible refine load_hold (own_load HK.out.own HMH.out HE.out) _ rfl rfl rfl ?_)
                | (with_reducible refine alloc_zero HK.out.keep 5 h_zero rfl rfl ?_; intro bh u hn0 hk0 hb; have hk := HK.out.of_alloc hn0 hk0 hb; clear hn0 hk0 hb; clear HK; have HK := Lib.hid hk; clear hk)
                | (with_reducible refine store_all HK.out.keep 0 5 h_info rfl rfl _ _ rfl rfl rfl rfl (Ho.len _) (zer_length 5) ?_; intro u hk0 hs0; have hk := HK.out.of_store 0 rfl hk0 hs0; clear hk0 hs0; simp only [List.set_cons_zero] at hk; clear HK; have HK := Lib.hid hk; clear hk)
                | (with_reducible refine load_val HK.out.keep 0 rfl _ rfl rfl rfl (Ho.g0 _) (Ho.p0 _) ?_)
                | (with_reducible refine load_val HK.out.keep 0 rfl _ rfl rfl rfl (Ho.g1 _) (Ho.p1 _) ?_)
                | (with_reducible refine load_val HK.out.keep 0 rfl _ rfl rfl rfl (Ho.g2 _) (Ho.p2 _) ?_)
                | (with_reducible refine load_val HK.out.keep 0 rfl _ rfl rfl rfl (Ho.g3 _) (Ho.p3 _) ?_)
                | (with_reducible refine load_val HK.out.keep 0 rfl _ rfl rfl rfl (Ho.g4 _) (Ho.p4 _) ?_)
                | (with_reducible refine load_val_want HK.out.keep 0 _ rfl rfl rfl rfl (Ho.g0 _) (Ho.p0 _) ?_)
                | (with_reducible refine load_val_want HK.out.keep 0 _ rfl rfl rfl rfl (Ho.g1 _) (Ho.p1 _) ?_)
                | (with_reducible refine load_val_want HK.out.keep 0 _ rfl rfl rfl rfl (Ho.g2 _) (Ho.p2 _) ?_)
                | (with_reducible refine load_val_want HK.out.keep 0 _ rfl rfl rfl rfl (Ho.g3 _) (Ho.p3 _) ?_)
                | (with_reducible refine load_val_want HK.out.keep 0 _ rfl rfl rfl rfl (Ho.g4 _) (Ho.p4 _) ?_)
                | (with_reducible refine eql_want h1 _ _ _ rfl rfl rfl rfl ?_)
                | (with_reducible refine eql_want h2 _ _ _ rfl rfl rfl rfl ?_)
                | (with_reducible refine lss_want h3 _ _ _ rfl rfl rfl rfl ?_))
              go_roundw
              case rel => exact ⟨m + 1, by omega, by go_num, by rw [HCT.out]; try rfl, by rw [HX.out]; exact HK.out.tail⟩
              case measure => simp [intOf]; omega
            | true =>
              have HCT := Lib.hid (show cntTo hs k now (m + 1) = ct + 1 by rw [cntTo_yes (by rw [HH.out]; exact over_c h1 h2 h3), HCC.out])
              have HX := Lib.hid (show expTo hs k now (m + 1) = (expTo hs k now m).set m (setS (hs.getD m z5) 3) from expTo_yes (by have := HL.out; omega) (by rw [HH.out]; exact over_c h1 h2 h3))
              go_wp2_with (first
                | (with_reducible refine load_hold (own_load HK.out.own HMH.out HE.out) _ rfl rfl rfl ?_)
                | (with_reducible refine alloc_zero HK.out.keep 5 h_zero rfl rfl ?_; intro bh u hn0 hk0 hb; have hk := HK.out.of_alloc hn0 hk0 hb; clear hn0 hk0 hb; clear HK; have HK := Lib.hid hk; clear hk)
                | (with_reducible refine store_all HK.out.keep 0 5 h_info rfl rfl _ _ rfl rfl rfl rfl (Ho.len _) (zer_length 5) ?_; intro u hk0 hs0; have hk := HK.out.of_store 0 rfl hk0 hs0; clear hk0 hs0; simp only [List.set_cons_zero] at hk; clear HK; have HK := Lib.hid hk; clear hk)
                | (with_reducible refine load_val HK.out.keep 0 rfl _ rfl rfl rfl (Ho.g0 _) (Ho.p0 _) ?_)
                | (with_reducible refine load_val HK.out.keep 0 rfl _ rfl rfl rfl (Ho.g1 _) (Ho.p1 _) ?_)
                | (with_reducible refine load_val HK.out.keep 0 rfl _ rfl rfl rfl (Ho.g2 _) (Ho.p2 _) ?_)
                | (with_reducible refine load_val HK.out.keep 0 rfl _ rfl rfl rfl (Ho.g3 _) (Ho.p3 _) ?_)
                | (with_reducible refine load_val HK.out.keep 0 rfl _ rfl rfl rfl (Ho.g4 _) (Ho.p4 _) ?_)
                | (with_reducible refine load_val_want HK.out.keep 0 _ rfl rfl rfl rfl (Ho.g0 _) (Ho.p0 _) ?_)
                | (with_reducible refine load_val_want HK.out.keep 0 _ rfl rfl rfl rfl (Ho.g1 _) (Ho.p1 _) ?_)
                | (with_reducible refine load_val_want HK.out.keep 0 _ rfl rfl rfl rfl (Ho.g2 _) (Ho.p2 _) ?_)
                | (with_reducible refine load_val_want HK.out.keep 0 _ rfl rfl rfl rfl (Ho.g3 _) (Ho.p3 _) ?_)
                | (with_reducible refine load_val_want HK.out.keep 0 _ rfl rfl rfl rfl (Ho.g4 _) (Ho.p4 _) ?_)
                | (with_reducible refine eql_want h1 _ _ _ rfl rfl rfl rfl ?_)
                | (with_reducible refine eql_want h2 _ _ _ rfl rfl rfl rfl ?_)
                | (with_reducible refine lss_want h3 _ _ _ rfl rfl rfl rfl ?_)
                | (with_reducible refine store_state HK.out HMH.out rfl rfl _ _ rfl rfl rfl rfl ?_; intro u hk; clear HK; have HK := Lib.hid hk; clear hk))
              go_roundw
              case rel => exact ⟨m + 1, by omega, by go_num, by rw [HCT.out]; try rfl, by
                have hk := HK.out.tail
                rw [HE.out, show (⟨h.r, h.n, h.a, h.d, 3⟩ : Ho) = setS h 3 from rfl, ← HH.out, ← HX.out] at hk
                exact hk⟩
              case measure => simp [intOf]; omega
      · obtain rfl : m = n := by omega
        go_wp2
        go_ret2
        have hk := HK.out.own
        rw [show expTo hs k now m = hs.map (goes k now) by rw [← HL.out, expTo_all]] at hk
        exact ⟨_, by rw [HL.out]; rfl, hk, HK.out.keep.bel⟩
end Go.Proofs.YtbaccghnneidgaaGreat
