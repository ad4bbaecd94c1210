/- Contracts of hold.Expire, and of what the statements call awake. What the statements of layer 6 stand on: slices of holds that come in, what is kept while calls tell rows, the statements' Few, and awake. Contracts of the document's Put, Reserve, End and Expire. -/
import Derived.Test.YtbaccghnneidgaaGreatLHoAct
namespace Go.Proofs.YtbaccghnneidgaaGreat
set_option maxRecDepth 100000
open Go.ChangeShapes Go.WideShapes Go.ChangeAt Go.RowKit

theorem clone_sl (A : Option Addr) (n c : Nat) (hs : List Ho) (w : World) (hd : Row w A n hs) :
    Calls Tryz.prog 112 #[.slice A n c] w fun e w' => ∃ A1 c1, e = .returned (.slice A1 n c1) ∧ Own w' w.heap.size (.slice A1 n c1) hs ∧ Below w.heap.size w w' :=
  (clone_any A n c hs w hd).mono fun e w' ⟨v, he, ho, hb⟩ => by
    have hl := hd.1
    obtain ⟨A1, c1, e1⟩ := ho.slice
    rw [hl] at e1
    subst e1
    exact ⟨A1, c1, he, ho, hb⟩
theorem own_load {u : World} {base g n cap : Nat} {xs : List Ho} {m : Nat} {h : Ho} (ho : Own u base (.slice (some ⟨g, 0, none⟩) n cap) xs) (hm : m < xs.length) (he : xs.getD m z5 = h) : u.rangeAt g (m * 5) (vals h.l) := by
  subst he; exact ho.range hm
theorem own_some {u : World} {base n cap : Nat} {A1 : Option Addr} {xs : List Ho} (ho : Own u base (.slice A1 n cap) xs) (h0 : 0 < xs.length) : ∃ g, A1 = some ⟨g, 0, none⟩ := by
  obtain ⟨g, cap', e, _⟩ := ho.at h0
  injection e with e1 _ _
  exact ⟨g, e1⟩
theorem cntTo_yes {l : List Ho} {k now : Int} {m : Nat} (h : overBH k now (l.getD m z5) = true) : cntTo l k now (m + 1) = cntTo l k now m + 1 := by rw [cntTo, if_pos h]
theorem cntTo_no {l : List Ho} {k now : Int} {m : Nat} (h : overBH k now (l.getD m z5) = false) : cntTo l k now (m + 1) = cntTo l k now m := by rw [cntTo, if_neg (by rw [h]; decide)]
theorem over_a {k now : Int} {h : Ho} (h1 : (h.r == k) = false) : overBH k now h = false := by rw [overBH, h1, Bool.false_and]
theorem over_b {k now : Int} {h : Ho} (h1 : (h.r == k) = true) (h2 : (h.s == 1) = false) : overBH k now h = false := by rw [overBH, h1, h2, Bool.false_and, Bool.and_false]
theorem over_c {k now : Int} {h : Ho} {r : Bool} (h1 : (h.r == k) = true) (h2 : (h.s == 1) = true) (h3 : decide (h.d < now) = r) : overBH k now h = r := by rw [overBH, h1, h2, h3, Bool.true_and, Bool.true_and]
set_option maxHeartbeats 4000000 in
set_option maxRecDepth 100000 in
theorem expire_any (A : Option Addr) (n c : Nat) (hs : List Ho) (k now : Int) (w : World) (hd : Row w A n hs) :
    Calls Tryz.prog 80 #[.slice A n c, .int .i64 k, .int .i64 now] w fun e w' => ∃ v, e = .returned (.tuple #[v, .int .i64 (expN hs k now)]) ∧ Own w' w.heap.size v (expL hs k now) ∧ Below w.heap.size w w' := by
  have HD := Lib.hid hd; have HL := Lib.hid hd.1; have HNB := Lib.hid hd.2.1; clear hd
  have HK := Lib.hid (KeepR.start w)
  cases hrt : rightsL hs with
  | false =>
    rw [show expN hs k now = 0 by rw [expN, hrt]; rfl, show expL hs k now = hs by rw [expL, hrt]; rfl]
    have HRT := Lib.hid hrt; clear hrt
    go_enter Tryz.func80, Tryz.ntmps80
    go_wp2_with (first
      | (go_at_call 112; (with_reducible refine (clone_sl _ _ _ _ _ (HD.out.below HK.out.bel (Nat.le_refl _))).mono ?_); rintro e u ⟨A1, c1, rfl, ho, hb⟩; have hk := (KeepH.of_keep HK.out).other hb ho; clear ho hb; clear HK; have HK := Lib.hid hk; clear hk)
      | (go_at_call 90; (with_reducible refine (rights_eq _ _ _ _ _ HRT.out _ (HD.out.below HK.out.keep.bel (Nat.le_refl _))).mono ?_); rintro e u ⟨rfl, hb⟩; have hk := HK.out.call hb; clear hb; clear HK; have HK := Lib.hid hk; clear hk))
    go_ret2
    exact ⟨_, rfl, HK.out.own, HK.out.keep.bel⟩
  | true =>
    rw [show expN hs k now = cntTo hs k now hs.length by rw [expN, hrt]; rfl, show expL hs k now = hs.map (goes k now) by rw [expL, hrt]; rfl]
    have HRT := Lib.hid hrt; clear hrt
    go_enter Tryz.func80, Tryz.ntmps80
    go_wp2_with (first
      | (go_at_call 112; (with_reducible refine (clone_sl _ _ _ _ _ (HD.out.below HK.out.bel (Nat.le_refl _))).mono ?_); rintro e u ⟨A1, c1, rfl, ho, hb⟩; have hk := (KeepH.of_keep HK.out).other hb ho; clear ho hb; clear HK; have HK := Lib.hid hk; clear hk)
      | (go_at_call 90; (with_reducible refine (rights_eq _ _ _ _ _ HRT.out _ (HD.out.below HK.out.keep.bel (Nat.le_refl _))).mono ?_); rintro e u ⟨rfl, hb⟩; have hk := HK.out.call hb; clear hb; clear HK; have HK := Lib.hid hk; clear hk))
    go_loopw [9, 20] (fun s i wr => ∃ m : Nat, m ≤ n ∧ i = .int .i64 m ∧ s = .int .i64 (cntTo hs k now m) ∧ KeepH w [] (.slice A1 n c1) (expTo hs k now m) wr) (fun _ i _ => n - (intOf i).toNat)
    case atStart => exact ⟨0, by omega, rfl, rfl, by rw [expTo_zero]; exact HK.out⟩
    case round =>
      obtain ⟨m, hm, rfl, rfl, hk⟩ := hrel
      clear HK
      have HK := Lib.hid hk
      clear hk
      by_cases hlt : m < n
      · have hnb := HNB.out
        obtain ⟨g, rfl⟩ := own_some HK.out.own (by rw [expTo_length, HL.out]; omega)
        obtain ⟨h, hh⟩ : ∃ h, hs.getD m z5 = h := ⟨_, rfl⟩
        have HH := Lib.hid hh
        have HE := Lib.hid (show (expTo hs k now m).getD m z5 = h by rw [expTo_get (by have := HL.out; omega), hh])
        have HMH := Lib.hid (show m < (expTo hs k now m).length by rw [expTo_length, HL.out]; exact hlt)
        clear hh
        have i1 : (0 : Int) ≤ (m : Int) := by omega
        have i2 : (m : Int) < (n : Int) := by omega
        have hct := cntTo_range hs k now m
        generalize hcc : cntTo hs k now m = ct at hct
        have HCC := Lib.hid hcc; clear hcc
        cases h1 : (h.r == k) with
        | false =>
          have HCT := Lib.hid (show cntTo hs k now (m + 1) = ct by rw [cntTo_no (by rw [HH.out]; exact over_a h1), HCC.out])
          have HX := Lib.hid (show expTo hs k now (m + 1) = expTo hs k now m from expTo_no (by have := HL.out; omega) (by rw [HH.out]; exact over_a h1))
          go_wp2_with (first
            | (with_reducible refine load_hold (own_load HK.out.own HMH.out HE.out) _ rfl rfl rfl ?_)
            | (with_reducible refine alloc_zero HK.out.keep 5 h_zero rfl rfl ?_; intro bh u hn0 hk0 hb; have hk := HK.out.of_alloc hn0 hk0 hb; clear hn0 hk0 hb; clear HK; have HK := Lib.hid hk; clear hk)
            | (with_reducible refine store_all HK.out.keep 0 5 h_info rfl rfl _ _ rfl rfl rfl rfl (Ho.len _) (zer_length 5) ?_; intro u hk0 hs0; have hk := HK.out.of_store 0 rfl hk0 hs0; clear hk0 hs0; simp only [List.set_cons_zero] at hk; clear HK; have HK := Lib.hid hk; clear hk)
            | (with_reducible refine load_val HK.out.keep 0 rfl _ rfl rfl rfl (Ho.g0 _) (Ho.p0 _) ?_)
            | (with_reducible refine load_val HK.out.keep 0 rfl _ rfl rfl rfl (Ho.g1 _) (Ho.p1 _) ?_)
            | (with_reducible refine load_val HK.out.keep 0 rfl _ rfl rfl rfl (Ho.g2 _) (Ho.p2 _) ?_)
            | (with_reducible refine load_val HK.out.keep 0 rfl _ rfl rfl rfl (Ho.g3 _) (Ho.p3 _) ?_)
            | (with_reducible refine load_val HK.out.keep 0 rfl _ rfl rfl rfl (Ho.g4 _) (Ho.p4 _) ?_)
            | (with_reducible refine load_val_want HK.out.keep 0 _ rfl rfl rfl rfl (Ho.g0 _) (Ho.p0 _) ?_)
            | (with_reducible refine load_val_want HK.out.keep 0 _ rfl rfl rfl rfl (Ho.g1 _) (Ho.p1 _) ?_)
            | (with_reducible refine load_val_want HK.out.keep 0 _ rfl rfl rfl rfl (Ho.g2 _) (Ho.p2 _) ?_)
            | (with_reducible refine load_val_want HK.out.keep 0 _ rfl rfl rfl rfl (Ho.g3 _) (Ho.p3 _) ?_)
            | (with_reducible refine load_val_want HK.out.keep 0 _ rfl rfl rfl rfl (Ho.g4 _) (Ho.p4 _) ?_)
            | (with_reducible refine eql_want h1 _ _ _ rfl rfl rfl rfl ?_))
          go_roundw
          case rel => exact ⟨m + 1, by omega, by go_num, by rw [HCT.out]; try rfl, by rw [HX.out]; exact HK.out.tail⟩
          case measure => simp [intOf]; omega
        | true =>
          cases h2 : (h.s == 1) with
          | false =>
            have HCT := Lib.hid (show cntTo hs k now (m + 1) = ct by rw [cntTo_no (by rw [HH.out]; exact over_b h1 h2), HCC.out])
            have HX := Lib.hid (show expTo hs k now (m + 1) = expTo hs k now m from expTo_no (by have := HL.out; omega) (by rw [HH.out]; exact over_b h1 h2))
            go_wp2_with (first
              | (with_reducible refine load_hold (own_load HK.out.own HMH.out HE.out) _ rfl rfl rfl ?_)
              | (with_reducible refine alloc_zero HK.out.keep 5 h_zero rfl rfl ?_; intro bh u hn0 hk0 hb; have hk := HK.out.of_alloc hn0 hk0 hb; clear hn0 hk0 hb; clear HK; have HK := Lib.hid hk; clear hk)
              | (with_reducible refine store_all HK.out.keep 0 5 h_info rfl rfl _ _ rfl rfl rfl rfl (Ho.len _) (zer_length 5) ?_; intro u hk0 hs0; have hk := HK.out.of_store 0 rfl hk0 hs0; clear hk0 hs0; simp only [List.set_cons_zero] at hk; clear HK; have HK := Lib.hid hk; clear hk)
              | (with_reducible refine load_val HK.out.keep 0 rfl _ rfl rfl rfl (Ho.g0 _) (Ho.p0 _) ?_)
              | (with_reducible refine load_val HK.out.keep 0 rfl _ rfl rfl rfl (Ho.g1 _) (Ho.p1 _) ?_)
              | (with_reducible refine load_val HK.out.keep 0 rfl _ rfl rfl rfl (Ho.g2 _) (Ho.p2 _) ?_)
              | (with_reducible refine load_val HK.out.keep 0 rfl _ rfl rfl rfl (Ho.g3 _) (Ho.p3 _) ?_)
              | (with_reducible refine load_val HK.out.keep 0 rfl _ rfl rfl rfl (Ho.g4 _) (Ho.p4 _) ?_)
              | (with_reducible refine load_val_want HK.out.keep 0 _ rfl rfl rfl rfl (Ho.g0 _) (Ho.p0 _) ?_)
              | (with_reducible refine load_val_want HK.out.keep 0 _ rfl rfl rfl rfl (Ho.g1 _) (Ho.p1 _) ?_)
              | (with_reducible refine load_val_want HK.out.keep 0 _ rfl rfl rfl rfl (Ho.g2 _) (Ho.p2 _) ?_)
              | (with_reducible refine load_val_want HK.out.keep 0 _ rfl rfl rfl rfl (Ho.g3 _) (Ho.p3 _) ?_)
              | (with_reducible refine load_val_want HK.out.keep 0 _ rfl rfl rfl rfl (Ho.g4 _) (Ho.p4 _) ?_)
              | (with_reducible refine eql_want h1 _ _ _ rfl rfl rfl rfl ?_)
              | (with_reducible refine eql_want h2 _ _ _ rfl rfl rfl rfl ?_))
            go_roundw
            case rel => exact ⟨m + 1, by omega, by go_num, by rw [HCT.out]; try rfl, by rw [HX.out]; exact HK.out.tail⟩
            case measure => simp [intOf]; omega
          | true =>
            cases h3 : decide (h.d < now) with
            | false =>
              have HCT := Lib.hid (show cntTo hs k now (m + 1) = ct by rw [cntTo_no (by rw [HH.out]; exact over_c h1 h2 h3), HCC.out])
              have HX := Lib.hid (show expTo hs k now (m + 1) = expTo hs k now m from expTo_no (by have := HL.out; omega) (by rw [HH.out]; exact over_c h1 h2 h3))
              go_wp2_with (first
                | (with_reducible refine load_hold (own_load HK.out.own HMH.out HE.out) _ rfl rfl rfl ?_)
                | (with_reducible refine alloc_zero HK.out.keep 5 h_zero rfl rfl ?_; intro bh u hn0 hk0 hb; have hk := HK.out.of_alloc hn0 hk0 hb; clear hn0 hk0 hb; clear HK; have HK := Lib.hid hk; clear hk)
                | (with_reducible refine store_all HK.out.keep 0 5 h_info rfl rfl _ _ rfl rfl rfl rfl (Ho.len _) (zer_length 5) ?_; intro u hk0 hs0; have hk := HK.out.of_store 0 rfl hk0 hs0; clear hk0 hs0; simp only [List.set_cons_zero] at hk; clear HK; have HK := Lib.hid hk; clear hk)
                | (with_reducible refine load_val HK.out.keep 0 rfl _ rfl rfl rfl (Ho.g0 _) (Ho.p0 _) ?_)
                | (with_reducible refine load_val HK.out.keep 0 rfl _ rfl rfl rfl (Ho.g1 _) (Ho.p1 _) ?_)
                | (with_reducible refine load_val HK.out.keep 0 rfl _ rfl rfl rfl (Ho.g2 _) (Ho.p2 _) ?_)
                | (with_reducible refine load_val HK.out.keep 0 rfl _ rfl rfl rfl (Ho.g3 _) (Ho.p3 _) ?_)
                | (with_reducible refine load_val HK.out.keep 0 rfl _ rfl rfl rfl (Ho.g4 _) (Ho.p4 _) ?_)
                | (with_reducible refine load_val_want HK.out.keep 0 _ rfl rfl rfl rfl (Ho.g0 _) (Ho.p0 _) ?_)
                | (with_reducible refine load_val_want HK.out.keep 0 _ rfl rfl rfl rfl (Ho.g1 _) (Ho.p1 _) ?_)
                | (with_reducible refine load_val_want HK.out.keep 0 _ rfl rfl rfl rfl (Ho.g2 _) (Ho.p2 _) ?_)
                | (with_reducible refine load_val_want HK.out.keep 0 _ rfl rfl rfl rfl (Ho.g3 _) (Ho.p3 _) ?_)
                | (with_reducible refine load_val_want HK.out.keep 0 _ rfl rfl rfl rfl (Ho.g4 _) (Ho.p4 _) ?_)
                | (with_reducible refine eql_want h1 _ _ _ rfl rfl rfl rfl ?_)
                | (with_reducible refine eql_want h2 _ _ _ rfl rfl rfl rfl ?_)
                | (with_reducible refine lss_want h3 _ _ _ rfl rfl rfl rfl ?_))
              go_roundw
              case rel => exact ⟨m + 1, by omega, by go_num, by rw [HCT.out]; try rfl, by rw [HX.out]; exact HK.out.tail⟩
              case measure => simp [intOf]; omega
            | true =>
              have HCT := Lib.hid (show cntTo hs k now (m + 1) = ct + 1 by rw [cntTo_yes (by rw [HH.out]; exact over_c h1 h2 h3), HCC.out])
              have HX := Lib.hid (show expTo hs k now (m + 1) = (expTo hs k now m).set m (setS (hs.getD m z5) 3) from expTo_yes (by have := HL.out; omega) (by rw [HH.out]; exact over_c h1 h2 h3))
              go_wp2_with (first
                | (with_reducible refine load_hold (own_load HK.out.own HMH.out HE.out) _ rfl rfl rfl ?_)
                | (with_reducible refine alloc_zero HK.out.keep 5 h_zero rfl rfl ?_; intro bh u hn0 hk0 hb; have hk := HK.out.of_alloc hn0 hk0 hb; clear hn0 hk0 hb; clear HK; have HK := Lib.hid hk; clear hk)
                | (with_reducible refine store_all HK.out.keep 0 5 h_info rfl rfl _ _ rfl rfl rfl rfl (Ho.len _) (zer_length 5) ?_; intro u hk0 hs0; have hk := HK.out.of_store 0 rfl hk0 hs0; clear hk0 hs0; simp only [List.set_cons_zero] at hk; clear HK; have HK := Lib.hid hk; clear hk)
                | (with_reducible refine load_val HK.out.keep 0 rfl _ rfl rfl rfl (Ho.g0 _) (Ho.p0 _) ?_)
                | (with_reducible refine load_val HK.out.keep 0 rfl _ rfl rfl rfl (Ho.g1 _) (Ho.p1 _) ?_)
                | (with_reducible refine load_val HK.out.keep 0 rfl _ rfl rfl rfl (Ho.g2 _) (Ho.p2 _) ?_)
                | (with_reducible refine load_val HK.out.keep 0 rfl _ rfl rfl rfl (Ho.g3 _) (Ho.p3 _) ?_)
                | (with_reducible refine load_val HK.out.keep 0 rfl _ rfl rfl rfl (Ho.g4 _) (Ho.p4 _) ?_)
                | (with_reducible refine load_val_want HK.out.keep 0 _ rfl rfl rfl rfl (Ho.g0 _) (Ho.p0 _) ?_)
                | (with_reducible refine load_val_want HK.out.keep 0 _ rfl rfl rfl rfl (Ho.g1 _) (Ho.p1 _) ?_)
                | (with_reducible refine load_val_want HK.out.keep 0 _ rfl rfl rfl rfl (Ho.g2 _) (Ho.p2 _) ?_)
                | (with_reducible refine load_val_want HK.out.keep 0 _ rfl rfl rfl rfl (Ho.g3 _) (Ho.p3 _) ?_)
                | (with_reducible refine load_val_want HK.out.keep 0 _ rfl rfl rfl rfl (Ho.g4 _) (Ho.p4 _) ?_)
                | (with_reducible refine eql_want h1 _ _ _ rfl rfl rfl rfl ?_)
                | (with_reducible refine eql_want h2 _ _ _ rfl rfl rfl rfl ?_)
                | (with_reducible refine lss_want h3 _ _ _ rfl rfl rfl rfl ?_)
                | (with_reducible refine store_state HK.out HMH.out rfl rfl _ _ rfl rfl rfl rfl ?_; intro u hk; clear HK; have HK := Lib.hid hk; clear hk))
              go_roundw
              case rel => exact ⟨m + 1, by omega, by go_num, by rw [HCT.out]; try rfl, by
                have hk := HK.out.tail
                rw [HE.out, show (⟨h.r, h.n, h.a, h.d, 3⟩ : Ho) = setS h 3 from rfl, ← HH.out, ← HX.out] at hk
                exact hk⟩
              case measure => simp [intOf]; omega
      · obtain rfl : m = n := by omega
        go_wp2
        go_ret2
        have hk := HK.out.own
        rw [show expTo hs k now m = hs.map (goes k now) by rw [← HL.out, expTo_all]] at hk
        exact ⟨_, by rw [HL.out]; rfl, hk, HK.out.keep.bel⟩
end Go.Proofs.YtbaccghnneidgaaGreat

namespace Go.Proofs.YtbaccghnneidgaaGreat
set_option maxRecDepth 100000
open Go.ChangeShapes Go.WideShapes Go.ChangeAt Go.RowKit

/-- A slice of holds that comes in, of any length. -/
def Came (w : World) (A : Option Addr) (n : Nat) (hs : List Ho) : Prop :=
  hs.length = n ∧ n ≤ maxLen ∧ (n = 0 ∨ ∃ b off : Nat, A = some ⟨b, off, none⟩ ∧ ∀ k, k < n → w.rangeAt b (off + k * 5) (vals (hs.getD k z5).l))
theorem Came.row {w : World} {A : Option Addr} {n : Nat} {hs : List Ho} (h : Came w A n hs) (hn : n ≤ 1000) : Row w A n hs := ⟨h.1, hn, h.2.2⟩
/-! ### What is kept while calls tell rows. -/
abbrev RowT := Option Addr × Nat × List Ho
structure LawS (w : World) (l : List (Nat × TypeId × List Int)) (rows : List RowT) (u : World) : Prop where
  keep : KeepR w l u
  row : ∀ x ∈ rows, Row u x.1 x.2.1 x.2.2
theorem LawS.bel {w u : World} {l : List (Nat × TypeId × List Int)} {rows : List RowT} (h : LawS w l rows u) : Below w.heap.size w u := h.keep.bel
theorem LawS.get {w u : World} {l : List (Nat × TypeId × List Int)} {rows : List RowT} (h : LawS w l rows u) (i : Nat) {A : Option Addr} {n : Nat} {hs : List Ho} (hi : rows[i]? = some (A, n, hs)) : Row u A n hs := h.row _ (List.mem_of_getElem? hi)
theorem LawS.call {w u u' : World} {l : List (Nat × TypeId × List Int)} {rows : List RowT} (h : LawS w l rows u) (hb : Below u.heap.size u u') : LawS w l rows u' := ⟨h.keep.call hb, fun x hx => (h.row x hx).call hb⟩
theorem LawS.drew {w u : World} {l : List (Nat × TypeId × List Int)} {rows : List RowT} (h : LawS w l rows u) : LawS w l rows u.drew := h.call ((Below.refl _ _).drew)
theorem LawS.add {w u u' : World} {l : List (Nat × TypeId × List Int)} {rows : List RowT} (h : LawS w l rows u) (hb : Below u.heap.size u u') {A : Option Addr} {n : Nat} {hs : List Ho} (hr : Row u' A n hs) : LawS w l ((A, n, hs) :: rows) u' :=
  ⟨h.keep.call hb, fun x hx => by
    rcases List.mem_cons.1 hx with rfl | hx
    · exact hr
    · exact (h.row x hx).call hb⟩
theorem LawS.tail {w u : World} {x : Nat × TypeId × List Int} {l : List (Nat × TypeId × List Int)} {rows : List RowT} (h : LawS w (x :: l) rows u) : LawS w l rows u := ⟨h.keep.tail, h.row⟩
theorem LawS.start {w : World} {rows : List RowT} (h : ∀ x ∈ rows, Row w x.1 x.2.1 x.2.2) : LawS w [] rows w := ⟨KeepR.start w, h⟩
/-- A block was made, and waits to be written. -/
structure PendS (w : World) (b : Nat) (t : TypeId) (zs : List Int) (l : List (Nat × TypeId × List Int)) (rows : List RowT) (u : World) : Prop where
  keep : KeepR w ((b, t, zs) :: l) u
  row : ∀ x ∈ rows, Row u x.1 x.2.1 x.2.2 ∧ ∀ g off, x.1 = some ⟨g, off, none⟩ → 0 < x.2.1 → g < b
theorem LawS.alloc {w u u' : World} {l : List (Nat × TypeId × List Int)} {rows : List RowT} (h : LawS w l rows u) {b : Nat} {t : TypeId} {zs : List Int} (hn : b = u.heap.size) (hk : KeepR w ((b, t, zs) :: l) u') (hb : Below u.heap.size u u') : PendS w b t zs l rows u' :=
  ⟨hk, fun x hx => ⟨(h.row x hx).call hb, fun g off he h0 => by
    obtain ⟨g', off', he', hr⟩ := (h.row x hx).at h0
    rw [he] at he'
    injection he' with he'
    injection he' with e1 e2
    subst e1
    rw [hn]
    exact range_lt (hr 0 h0)⟩⟩
theorem PendS.store {w u u' : World} {b : Nat} {t : TypeId} {zs S : List Int} {l : List (Nat × TypeId × List Int)} {rows : List RowT} (h : PendS w b t zs l rows u) (hk : KeepR w ((b, t, S) :: l) u') (he : ∀ k, k ≠ b → u'.heap[k]? = u.heap[k]?) : LawS w ((b, t, S) :: l) rows u' :=
  ⟨hk, fun x hx => by
    obtain ⟨⟨h1, h2, h3⟩, h4⟩ := h.row x hx
    refine ⟨h1, h2, ?_⟩
    rcases h3 with h0 | ⟨g, off, e, hr⟩
    · exact .inl h0
    · refine .inr ⟨g, off, e, fun k hk' j v hv => ?_⟩
      have hg := h4 g off e (by omega)
      rw [World.cell?_of_block (w := u) (he g (by omega))]
      exact hr k hk' j v hv⟩

/-! ### Few. -/
/-! ### What calls tell, as rows. -/
theorem Own.told {w : World} {base : Nat} {v : Value} {hs : List Ho} (h : Own w base v hs) (hn : hs.length ≤ 1000) : ∃ A c, v = .slice A hs.length c ∧ Row w A hs.length hs := by
  obtain ⟨A, c, rfl⟩ := h.slice
  exact ⟨A, c, rfl, h.row hn⟩
theorem resL_len {l : List Ho} {k a d : Int} : (resL l k a d).length ≤ 17 := by
  unfold resL
  split
  · rename_i h
    rw [insH_length]
    have : l.length ≤ 16 := by
      unfold resE at h
      split at h
      · rename_i h2
        rw [Bool.and_eq_true] at h2
        exact (rights_iff.1 h2.1).1
      · omega
    omega
  · simp
theorem endL_len {l : List Ho} {k n st : Int} : (endL l k n st).length ≤ l.length := by
  unfold endL
  split <;> simp
theorem expL_len (l : List Ho) (k now : Int) : (expL l k now).length = l.length := by
  unfold expL
  split <;> simp
/-! ### Awake. -/
end Go.Proofs.YtbaccghnneidgaaGreat

namespace Go.Proofs.YtbaccghnneidgaaGreat
set_option maxRecDepth 100000
open Go.ChangeShapes Go.WideShapes Go.ChangeAt Go.RowKit

theorem Row.from {u : World} {A : Option Addr} {n c K : Nat} {hs : List Ho} (h : Row u A n hs) (hK : K ≤ n) (hc : n ≤ c) : Row u (if c = K then A else A.map (·.add (K * 5))) (n - K) (hs.drop K) := by
  obtain ⟨h1, h2, h3⟩ := h
  refine ⟨by simp; omega, by omega, ?_⟩
  rcases h3 with h0 | ⟨b, off, rfl, hr⟩
  · exact .inl (by omega)
  · rcases Nat.eq_zero_or_pos (n - K) with h0 | h0
    · exact .inl h0
    · refine .inr ⟨b, off + K * 5, ?_, Row.sub h1 hr⟩
      rw [if_neg (by omega), Option.map_some, Go.WideShapes.add_plain]
end Go.Proofs.YtbaccghnneidgaaGreat
