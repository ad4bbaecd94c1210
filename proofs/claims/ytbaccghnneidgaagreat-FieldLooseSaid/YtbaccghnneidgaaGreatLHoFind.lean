/- Contracts of hold.place, Find, Sum and greatest, of the document's Sum, and of the statements' Same. -/
import Derived.Test.YtbaccghnneidgaaGreatLHoRts
import Derived.Test.YtbaccghnneidgaaGreatLHoB
namespace Go.Proofs.YtbaccghnneidgaaGreat
set_option maxRecDepth 100000
open Go.ChangeShapes Go.WideShapes Go.ChangeAt Go.RowKit

theorem pl1_any (h : Ho) (k n : Int) (bk bn : Nat) (w : World) (hk : w.cell? ⟨bk, 0, none⟩ = some (.int .i64 k)) (hn : w.cell? ⟨bn, 0, none⟩ = some (.int .i64 n)) :
    Calls Tryz.prog 145 #[.agg (vals h.l).toArray, .pointer (some ⟨bk, 0, none⟩), .pointer (some ⟨bn, 0, none⟩)] w fun e w' => e = .returned (.bool (nm k n h)) ∧ Below w.heap.size w w' := by
  have HCK := Lib.hid hk; have HCN := Lib.hid hn; clear hk hn
  have HK := Lib.hid (KeepR.start w)
  cases h1 : (h.r == k) with
  | false =>
    rw [show nm k n h = false by simp only [nm, h1, Bool.false_and]]
    go_enter Tryz.func145, Tryz.ntmps145
    go_wp2_with (first
      | (with_reducible refine box_new (R := h.l) HK.out rfl _ rfl rfl ?_; intro b u hk hb; clear hb; clear HK; have HK := Lib.hid hk; clear hk)
      | (with_reducible refine load_val HK.out 0 rfl _ rfl rfl rfl (Ho.g0 _) (Ho.p0 _) ?_)
      | (with_reducible refine load_val HK.out 0 rfl _ rfl rfl rfl (Ho.g1 _) (Ho.p1 _) ?_)
      | (with_reducible refine load_val_want HK.out 0 _ rfl rfl rfl rfl (Ho.g0 _) (Ho.p0 _) ?_)
      | (with_reducible refine load_val_want HK.out 0 _ rfl rfl rfl rfl (Ho.g1 _) (Ho.p1 _) ?_)
      | (with_reducible refine load_cell (show u.cell? ⟨bk, 0, none⟩ = some (.int .i64 k) by rw [HK.out.bel.cell (cell_lt HCK.out)]; exact HCK.out) _ rfl rfl rfl ?_)
      | (with_reducible refine load_cell (show u.cell? ⟨bn, 0, none⟩ = some (.int .i64 n) by rw [HK.out.bel.cell (cell_lt HCN.out)]; exact HCN.out) _ rfl rfl rfl ?_)
      | (with_reducible refine eql_want h1 _ _ _ rfl rfl rfl rfl ?_))
    go_ret
    exact ⟨rfl, HK.out.bel⟩
  | true =>
    cases h2 : (h.n == n) with
    | false =>
      rw [show nm k n h = false by simp only [nm, h1, h2, Bool.true_and]]
      go_enter Tryz.func145, Tryz.ntmps145
      go_wp2_with (first
        | (with_reducible refine box_new (R := h.l) HK.out rfl _ rfl rfl ?_; intro b u hk hb; clear hb; clear HK; have HK := Lib.hid hk; clear hk)
        | (with_reducible refine load_val HK.out 0 rfl _ rfl rfl rfl (Ho.g0 _) (Ho.p0 _) ?_)
        | (with_reducible refine load_val HK.out 0 rfl _ rfl rfl rfl (Ho.g1 _) (Ho.p1 _) ?_)
        | (with_reducible refine load_val_want HK.out 0 _ rfl rfl rfl rfl (Ho.g0 _) (Ho.p0 _) ?_)
        | (with_reducible refine load_val_want HK.out 0 _ rfl rfl rfl rfl (Ho.g1 _) (Ho.p1 _) ?_)
        | (with_reducible refine load_cell (show u.cell? ⟨bk, 0, none⟩ = some (.int .i64 k) by rw [HK.out.bel.cell (cell_lt HCK.out)]; exact HCK.out) _ rfl rfl rfl ?_)
        | (with_reducible refine load_cell (show u.cell? ⟨bn, 0, none⟩ = some (.int .i64 n) by rw [HK.out.bel.cell (cell_lt HCN.out)]; exact HCN.out) _ rfl rfl rfl ?_)
        | (with_reducible refine eql_want h1 _ _ _ rfl rfl rfl rfl ?_)
        | (with_reducible refine eql_want h2 _ _ _ rfl rfl rfl rfl ?_))
      go_ret
      exact ⟨rfl, HK.out.bel⟩
    | true =>
      rw [show nm k n h = true by simp only [nm, h1, h2, Bool.true_and]]
      go_enter Tryz.func145, Tryz.ntmps145
      go_wp2_with (first
        | (with_reducible refine box_new (R := h.l) HK.out rfl _ rfl rfl ?_; intro b u hk hb; clear hb; clear HK; have HK := Lib.hid hk; clear hk)
        | (with_reducible refine load_val HK.out 0 rfl _ rfl rfl rfl (Ho.g0 _) (Ho.p0 _) ?_)
        | (with_reducible refine load_val HK.out 0 rfl _ rfl rfl rfl (Ho.g1 _) (Ho.p1 _) ?_)
        | (with_reducible refine load_val_want HK.out 0 _ rfl rfl rfl rfl (Ho.g0 _) (Ho.p0 _) ?_)
        | (with_reducible refine load_val_want HK.out 0 _ rfl rfl rfl rfl (Ho.g1 _) (Ho.p1 _) ?_)
        | (with_reducible refine load_cell (show u.cell? ⟨bk, 0, none⟩ = some (.int .i64 k) by rw [HK.out.bel.cell (cell_lt HCK.out)]; exact HCK.out) _ rfl rfl rfl ?_)
        | (with_reducible refine load_cell (show u.cell? ⟨bn, 0, none⟩ = some (.int .i64 n) by rw [HK.out.bel.cell (cell_lt HCN.out)]; exact HCN.out) _ rfl rfl rfl ?_)
        | (with_reducible refine eql_want h1 _ _ _ rfl rfl rfl rfl ?_)
        | (with_reducible refine eql_want h2 _ _ _ rfl rfl rfl rfl ?_))
      go_ret
      exact ⟨rfl, HK.out.bel⟩
theorem pl1_eq (h : Ho) (k n : Int) (r : Bool) (hr : nm k n h = r) (bk bn : Nat) (w : World) (hk : w.cell? ⟨bk, 0, none⟩ = some (.int .i64 k)) (hn : w.cell? ⟨bn, 0, none⟩ = some (.int .i64 n)) :
    Calls Tryz.prog 145 #[.agg (vals h.l).toArray, .pointer (some ⟨bk, 0, none⟩), .pointer (some ⟨bn, 0, none⟩)] w fun e w' => e = .returned (.bool r) ∧ Below w.heap.size w w' := by
  subst hr; exact pl1_any h k n bk bn w hk hn
set_option maxHeartbeats 1000000 in
theorem idx_any (A : Option Addr) (n c : Nat) (hs : List Ho) (k q : Int) (bk bn : Nat) (w : World) (hd : Row w A n hs) (hk : w.cell? ⟨bk, 0, none⟩ = some (.int .i64 k)) (hn : w.cell? ⟨bn, 0, none⟩ = some (.int .i64 q)) :
    Calls Tryz.prog 144 #[.slice A n c, .func (.func 145) #[] #[.pointer (some ⟨bk, 0, none⟩), .pointer (some ⟨bn, 0, none⟩)]] w fun e w' => e = .returned (.int .i64 (plc hs k q)) ∧ Below w.heap.size w w' := by
  have HCK := Lib.hid hk; have HCN := Lib.hid hn; clear hk hn
  have HD := Lib.hid hd; have HL := Lib.hid hd.1; have HNB := Lib.hid hd.2.1; clear hd
  have HK := Lib.hid (KeepR.start w)
  go_enter Tryz.func144, Tryz.ntmps144
  go_wp2
  go_loopw [8] (fun i wr => ∃ m : Nat, m ≤ n ∧ i = .int .i64 m ∧ (∀ j, j < m → nm k q (hs.getD j z5) = false) ∧ KeepR w [] wr) (fun i _ => n - (intOf i).toNat)
  case atStart => exact ⟨0, by omega, rfl, by omega, HK.out⟩
  case round =>
    obtain ⟨m, hm, rfl, hu, hk⟩ := hrel
    clear HK
    have HK := Lib.hid hk; have HU := Lib.hid hu
    clear hk hu
    by_cases hlt : m < n
    · have hnb := HNB.out
      obtain ⟨b, off, rfl, hr⟩ := HD.out.at hlt
      have hrm := hr m hlt
      clear hr
      obtain ⟨h, hh⟩ : ∃ h, hs.getD m z5 = h := ⟨_, rfl⟩
      rw [hh] at hrm
      have HH := Lib.hid hh
      have HR := Lib.hid hrm; have HC := Lib.hid (range_lt hrm)
      clear hrm hh
      have i1 : (0 : Int) ≤ (m : Int) := by omega
      have i2 : (m : Int) < (n : Int) := by omega
      cases hnm : nm k q h with
      | true =>
        have HN := Lib.hid hnm; clear hnm
        have HF := Lib.hid (show plc hs k q = m from plc_hit (by have := HL.out; omega) HU.out (by rw [HH.out]; exact HN.out))
        go_wp2_with (first
          | (with_reducible refine load_hold (range_below HR.out HK.out.bel HC.out) _ rfl rfl rfl ?_)
          | (go_at_call 145; (refine (pl1_eq _ _ _ _ HN.out _ _ _ (by rw [HK.out.bel.cell (cell_lt HCK.out)]; exact HCK.out) (by rw [HK.out.bel.cell (cell_lt HCN.out)]; exact HCN.out)).mono ?_); rintro e u ⟨rfl, hb⟩; have hk := HK.out.call hb; clear hb; clear HK; have HK := Lib.hid hk; clear hk))
        go_ret
        exact ⟨by rw [HF.out]; rfl, HK.out.bel⟩
      | false =>
        have HN := Lib.hid hnm; clear hnm
        go_wp2_with (first
          | (with_reducible refine load_hold (range_below HR.out HK.out.bel HC.out) _ rfl rfl rfl ?_)
          | (go_at_call 145; (refine (pl1_eq _ _ _ _ HN.out _ _ _ (by rw [HK.out.bel.cell (cell_lt HCK.out)]; exact HCK.out) (by rw [HK.out.bel.cell (cell_lt HCN.out)]; exact HCN.out)).mono ?_); rintro e u ⟨rfl, hb⟩; have hk := HK.out.call hb; clear hb; clear HK; have HK := Lib.hid hk; clear hk))
        go_roundw
        case rel => exact ⟨m + 1, by omega, by go_num, fun j hj => by
          rcases Nat.lt_or_ge j m with h1 | h1
          · exact HU.out j h1
          · rw [show j = m by omega, HH.out]; exact HN.out, HK.out⟩
        case measure => simp [intOf]; omega
    · obtain rfl : m = n := by omega
      have HF := Lib.hid (show plc hs k q = -1 from plc_miss (by rw [HL.out]; exact HU.out))
      go_wp2
      go_ret
      exact ⟨by rw [HF.out]; rfl, HK.out.bel⟩
theorem place_any (A : Option Addr) (n c : Nat) (hs : List Ho) (k q : Int) (w : World) (hd : Row w A n hs) :
    Calls Tryz.prog 116 #[.slice A n c, .int .i64 k, .int .i64 q] w fun e w' => e = .returned (.int .i64 (plc hs k q)) ∧ Below w.heap.size w w' := by
  have HD := Lib.hid hd; clear hd
  have HK := Lib.hid (KeepR.start w)
  go_enter Tryz.func116, Tryz.ntmps116
  go_wp2_with (first
    | (with_reducible refine box_int HK.out rfl _ rfl rfl ?_; intro bx u hk; clear HK; have HK := Lib.hid hk; clear hk)
    | (go_at_call 144; (refine (idx_any _ _ _ _ k q _ _ _ (HD.out.below HK.out.bel (Nat.le_refl _)) ((HK.out.get 1 rfl).cell (k := 0) (by simp)) ((HK.out.get 0 rfl).cell (k := 0) (by simp))).mono ?_); rintro e u ⟨rfl, hb⟩; have hk := HK.out.call hb; clear hb; clear HK; have HK := Lib.hid hk; clear hk))
  go_ret
  exact ⟨rfl, HK.out.bel⟩
theorem place_eq (A : Option Addr) (n c : Nat) (hs : List Ho) (k q z : Int) (hz : plc hs k q = z) (w : World) (hd : Row w A n hs) :
    Calls Tryz.prog 116 #[.slice A n c, .int .i64 k, .int .i64 q] w fun e w' => e = .returned (.int .i64 z) ∧ Below w.heap.size w w' := by
  subst hz; exact place_any A n c hs k q w hd
theorem rights_eq (A : Option Addr) (n c : Nat) (hs : List Ho) (r : Bool) (hr : rightsL hs = r) (w : World) (hd : Row w A n hs) :
    Calls Tryz.prog 90 #[.slice A n c] w fun e w' => e = .returned (.bool r) ∧ Below w.heap.size w w' := by
  subst hr; exact rights_any A n c hs w hd
def sumOf (l : List Ho) (k : Int) : Int := if rightsL l then sumL l k else 0
theorem sumTo_yes {l : List Ho} {k : Int} {m : Nat} (h : holdsB k (l.getD m z5) = true) : sumTo l k (m + 1) = min (sumTo l k m + (l.getD m z5).a) 1099511627776 := by rw [sumTo, if_pos h]
theorem sumTo_no {l : List Ho} {k : Int} {m : Nat} (h : holdsB k (l.getD m z5) = false) : sumTo l k (m + 1) = sumTo l k m := by rw [sumTo, if_neg (by rw [h]; decide)]
theorem holds_a {k : Int} {h : Ho} (h1 : (h.r == k) = false) : holdsB k h = false := by rw [holdsB, h1, Bool.false_and]
theorem holds_b {k : Int} {h : Ho} {r : Bool} (h1 : (h.r == k) = true) (h2 : (h.s == 1) = r) : holdsB k h = r := by rw [holdsB, h1, h2, Bool.true_and]
set_option maxHeartbeats 2000000 in
theorem hsum_any (A : Option Addr) (n c : Nat) (hs : List Ho) (k : Int) (w : World) (hd : Row w A n hs) :
    Calls Tryz.prog 43 #[.slice A n c, .int .i64 k] w fun e w' => e = .returned (.int .i64 (sumOf hs k)) ∧ Below w.heap.size w w' := by
  have HD := Lib.hid hd; have HL := Lib.hid hd.1; have HNB := Lib.hid hd.2.1; clear hd
  have HK := Lib.hid (KeepR.start w)
  cases hrt : rightsL hs with
  | false =>
    rw [show sumOf hs k = 0 by rw [sumOf, hrt]; rfl]
    have HRT := Lib.hid hrt; clear hrt
    go_enter Tryz.func43, Tryz.ntmps43
    go_wp2_with (first
      | (go_at_call 90; (with_reducible refine (rights_eq _ _ _ _ _ HRT.out _ HD.out).mono ?_); rintro e u ⟨rfl, hb⟩; have hk := HK.out.call hb; clear hb; clear HK; have HK := Lib.hid hk; clear hk))
    go_ret
    exact ⟨rfl, HK.out.bel⟩
  | true =>
    rw [show sumOf hs k = sumL hs k by rw [sumOf, hrt]; rfl]
    have HRT := Lib.hid hrt; have HRG := Lib.hid (fun m => sumTo_range (rights_iff.1 hrt).2.1 k m)
    have HRH := Lib.hid (rights_iff.1 hrt).2.1
    clear hrt
    go_enter Tryz.func43, Tryz.ntmps43
    go_wp2_with (first
      | (go_at_call 90; (with_reducible refine (rights_eq _ _ _ _ _ HRT.out _ HD.out).mono ?_); rintro e u ⟨rfl, hb⟩; have hk := HK.out.call hb; clear hb; clear HK; have HK := Lib.hid hk; clear hk))
    go_loopw [5, 13] (fun s i wr => ∃ m : Nat, m ≤ n ∧ i = .int .i64 m ∧ s = .int .i64 (sumTo hs k m) ∧ KeepR w [] wr) (fun _ i _ => n - (intOf i).toNat)
    case atStart => exact ⟨0, by omega, rfl, rfl, HK.out⟩
    case round =>
      obtain ⟨m, hm, rfl, rfl, hk⟩ := hrel
      clear HK
      have HK := Lib.hid hk
      clear hk
      have hS := HRG.out m (by have := HL.out; omega)
      by_cases hlt : m < n
      · have hnb := HNB.out
        have hA := rightH_iff.1 (HRH.out _ (getD_mem (show m < hs.length by have := HL.out; omega)))
        obtain ⟨b, off, rfl, hr⟩ := HD.out.at hlt
        have hrm := hr m hlt
        clear hr
        obtain ⟨h, hh⟩ : ∃ h, hs.getD m z5 = h := ⟨_, rfl⟩
        rw [hh] at hrm
        have HH := Lib.hid hh
        have HR := Lib.hid hrm; have HC := Lib.hid (range_lt hrm)
        clear hrm hh
        have i1 : (0 : Int) ≤ (m : Int) := by omega
        have i2 : (m : Int) < (n : Int) := by omega
        rw [HH.out] at hA
        obtain ⟨_, _, _, _, ha1, ha2, _⟩ := hA
        generalize hSS : sumTo hs k m = s at hS
        have HSS := Lib.hid hSS; clear hSS
        cases h1 : (h.r == k) with
        | false =>
          have HNX := Lib.hid (show sumTo hs k (m + 1) = s by rw [sumTo_no (by rw [HH.out]; exact holds_a h1), HSS.out])
          go_wp2_with (first
            | (with_reducible refine load_hold (range_below HR.out HK.out.bel HC.out) _ rfl rfl rfl ?_)
            | (with_reducible refine alloc_zero HK.out 5 h_zero rfl rfl ?_; intro bh u hn hk hb; clear hn hb; clear HK; have HK := Lib.hid hk; clear hk)
            | (with_reducible refine store_all HK.out 0 5 h_info rfl rfl _ _ rfl rfl rfl rfl (Ho.len _) (zer_length 5) ?_; intro u hk hs; clear hs; simp only [List.set_cons_zero] at hk; clear HK; have HK := Lib.hid hk; clear hk)
            | (with_reducible refine load_val HK.out 0 rfl _ rfl rfl rfl (Ho.g0 _) (Ho.p0 _) ?_)
            | (with_reducible refine load_val HK.out 0 rfl _ rfl rfl rfl (Ho.g1 _) (Ho.p1 _) ?_)
            | (with_reducible refine load_val HK.out 0 rfl _ rfl rfl rfl (Ho.g2 _) (Ho.p2 _) ?_)
            | (with_reducible refine load_val HK.out 0 rfl _ rfl rfl rfl (Ho.g3 _) (Ho.p3 _) ?_)
            | (with_reducible refine load_val HK.out 0 rfl _ rfl rfl rfl (Ho.g4 _) (Ho.p4 _) ?_)
            | (with_reducible refine load_val_want HK.out 0 _ rfl rfl rfl rfl (Ho.g0 _) (Ho.p0 _) ?_)
            | (with_reducible refine load_val_want HK.out 0 _ rfl rfl rfl rfl (Ho.g1 _) (Ho.p1 _) ?_)
            | (with_reducible refine load_val_want HK.out 0 _ rfl rfl rfl rfl (Ho.g2 _) (Ho.p2 _) ?_)
            | (with_reducible refine load_val_want HK.out 0 _ rfl rfl rfl rfl (Ho.g3 _) (Ho.p3 _) ?_)
            | (with_reducible refine load_val_want HK.out 0 _ rfl rfl rfl rfl (Ho.g4 _) (Ho.p4 _) ?_)
            | (with_reducible refine eql_want h1 _ _ _ rfl rfl rfl rfl ?_))
          go_roundw
          case rel => exact ⟨m + 1, by omega, by go_num, by rw [HNX.out], HK.out.tail⟩
          case measure => simp [intOf]; omega
        | true =>
          cases h2 : (h.s == 1) with
          | false =>
            have HNX := Lib.hid (show sumTo hs k (m + 1) = s by rw [sumTo_no (by rw [HH.out]; exact holds_b h1 h2), HSS.out])
            go_wp2_with (first
              | (with_reducible refine load_hold (range_below HR.out HK.out.bel HC.out) _ rfl rfl rfl ?_)
              | (with_reducible refine alloc_zero HK.out 5 h_zero rfl rfl ?_; intro bh u hn hk hb; clear hn hb; clear HK; have HK := Lib.hid hk; clear hk)
              | (with_reducible refine store_all HK.out 0 5 h_info rfl rfl _ _ rfl rfl rfl rfl (Ho.len _) (zer_length 5) ?_; intro u hk hs; clear hs; simp only [List.set_cons_zero] at hk; clear HK; have HK := Lib.hid hk; clear hk)
              | (with_reducible refine load_val HK.out 0 rfl _ rfl rfl rfl (Ho.g0 _) (Ho.p0 _) ?_)
              | (with_reducible refine load_val HK.out 0 rfl _ rfl rfl rfl (Ho.g1 _) (Ho.p1 _) ?_)
              | (with_reducible refine load_val HK.out 0 rfl _ rfl rfl rfl (Ho.g2 _) (Ho.p2 _) ?_)
              | (with_reducible refine load_val HK.out 0 rfl _ rfl rfl rfl (Ho.g3 _) (Ho.p3 _) ?_)
              | (with_reducible refine load_val HK.out 0 rfl _ rfl rfl rfl (Ho.g4 _) (Ho.p4 _) ?_)
              | (with_reducible refine load_val_want HK.out 0 _ rfl rfl rfl rfl (Ho.g0 _) (Ho.p0 _) ?_)
              | (with_reducible refine load_val_want HK.out 0 _ rfl rfl rfl rfl (Ho.g1 _) (Ho.p1 _) ?_)
              | (with_reducible refine load_val_want HK.out 0 _ rfl rfl rfl rfl (Ho.g2 _) (Ho.p2 _) ?_)
              | (with_reducible refine load_val_want HK.out 0 _ rfl rfl rfl rfl (Ho.g3 _) (Ho.p3 _) ?_)
              | (with_reducible refine load_val_want HK.out 0 _ rfl rfl rfl rfl (Ho.g4 _) (Ho.p4 _) ?_)
              | (with_reducible refine eql_want h1 _ _ _ rfl rfl rfl rfl ?_)
              | (with_reducible refine eql_want h2 _ _ _ rfl rfl rfl rfl ?_))
            go_roundw
            case rel => exact ⟨m + 1, by omega, by go_num, by rw [HNX.out], HK.out.tail⟩
            case measure => simp [intOf]; omega
          | true =>
            have HNX := Lib.hid (show sumTo hs k (m + 1) = min (s + h.a) 1099511627776 by rw [sumTo_yes (by rw [HH.out]; exact holds_b h1 h2), HSS.out, HH.out])
            go_wp2_with (first
              | (with_reducible refine load_hold (range_below HR.out HK.out.bel HC.out) _ rfl rfl rfl ?_)
              | (with_reducible refine alloc_zero HK.out 5 h_zero rfl rfl ?_; intro bh u hn hk hb; clear hn hb; clear HK; have HK := Lib.hid hk; clear hk)
              | (with_reducible refine store_all HK.out 0 5 h_info rfl rfl _ _ rfl rfl rfl rfl (Ho.len _) (zer_length 5) ?_; intro u hk hs; clear hs; simp only [List.set_cons_zero] at hk; clear HK; have HK := Lib.hid hk; clear hk)
              | (with_reducible refine load_val HK.out 0 rfl _ rfl rfl rfl (Ho.g0 _) (Ho.p0 _) ?_)
              | (with_reducible refine load_val HK.out 0 rfl _ rfl rfl rfl (Ho.g1 _) (Ho.p1 _) ?_)
              | (with_reducible refine load_val HK.out 0 rfl _ rfl rfl rfl (Ho.g2 _) (Ho.p2 _) ?_)
              | (with_reducible refine load_val HK.out 0 rfl _ rfl rfl rfl (Ho.g3 _) (Ho.p3 _) ?_)
              | (with_reducible refine load_val HK.out 0 rfl _ rfl rfl rfl (Ho.g4 _) (Ho.p4 _) ?_)
              | (with_reducible refine load_val_want HK.out 0 _ rfl rfl rfl rfl (Ho.g0 _) (Ho.p0 _) ?_)
              | (with_reducible refine load_val_want HK.out 0 _ rfl rfl rfl rfl (Ho.g1 _) (Ho.p1 _) ?_)
              | (with_reducible refine load_val_want HK.out 0 _ rfl rfl rfl rfl (Ho.g2 _) (Ho.p2 _) ?_)
              | (with_reducible refine load_val_want HK.out 0 _ rfl rfl rfl rfl (Ho.g3 _) (Ho.p3 _) ?_)
              | (with_reducible refine load_val_want HK.out 0 _ rfl rfl rfl rfl (Ho.g4 _) (Ho.p4 _) ?_)
              | (with_reducible refine eql_want h1 _ _ _ rfl rfl rfl rfl ?_)
              | (with_reducible refine eql_want h2 _ _ _ rfl rfl rfl rfl ?_))
            go_roundw
            case rel => exact ⟨m + 1, by omega, by go_num, by rw [HNX.out]; congr 1; split <;> omega, HK.out.tail⟩
            case measure => simp [intOf]; omega
      · obtain rfl : m = n := by omega
        have HF := Lib.hid (show sumTo hs k m = sumL hs k by rw [sumL, HL.out])
        go_wp2
        go_ret
        exact ⟨by rw [← HF.out]; rfl, HK.out.bel⟩
end Go.Proofs.YtbaccghnneidgaaGreat
