/- Contracts of hold.place, Find, Sum and greatest, of the document's Sum, and of the statements' Same. -/
import Derived.Test.YtofngihdnjgmeaaLHoRts
import Derived.Test.YtofngihdnjgmeaaLHoB
namespace Go.Proofs.Ytofngihdnjgmeaa
set_option maxRecDepth 100000
open Go.ChangeShapes Go.WideShapes Go.ChangeAt Go.RowKit

theorem rights_eq (A : Option Addr) (n c : Nat) (hs : List Ho) (r : Bool) (hr : rightsL hs = r) (w : World) (hd : Row w A n hs) :
    Calls Try.prog 54 #[.slice A n c] w fun e w' => e = .returned (.bool r) ∧ Below w.heap.size w w' := by
  subst hr; exact rights_any A n c hs w hd
def sumOf (l : List Ho) (k : Int) : Int := if rightsL l then sumL l k else 0
theorem sumTo_yes {l : List Ho} {k : Int} {m : Nat} (h : holdsB k (l.getD m z5) = true) : sumTo l k (m + 1) = min (sumTo l k m + (l.getD m z5).a) 1099511627776 := by rw [sumTo, if_pos h]
theorem sumTo_no {l : List Ho} {k : Int} {m : Nat} (h : holdsB k (l.getD m z5) = false) : sumTo l k (m + 1) = sumTo l k m := by rw [sumTo, if_neg (by rw [h]; decide)]
theorem holds_a {k : Int} {h : Ho} (h1 : (h.r == k) = false) : holdsB k h = false := by rw [holdsB, h1, Bool.false_and]
theorem holds_b {k : Int} {h : Ho} {r : Bool} (h1 : (h.r == k) = true) (h2 : (h.s == 1) = r) : holdsB k h = r := by rw [holdsB, h1, h2, Bool.true_and]
set_option maxHeartbeats 2000000 in
theorem hsum_any (A : Option Addr) (n c : Nat) (hs : List Ho) (k : Int) (w : World) (hd : Row w A n hs) :
    Calls Try.prog 53 #[.slice A n c, .int .i64 k] w fun e w' => e = .returned (.int .i64 (sumOf hs k)) ∧ Below w.heap.size w w' := by
  have HD := Lib.hid hd; have HL := Lib.hid hd.1; have HNB := Lib.hid hd.2.1; clear hd
  have HK := Lib.hid (KeepR.start w)
  cases hrt : rightsL hs with
  | false =>
    rw [show sumOf hs k = 0 by rw [sumOf, hrt]; rfl]
    have HRT := Lib.hid hrt; clear hrt
    go_enter Try.func53, Try.ntmps53
    go_wp2_with (first
      | (go_at_call 54; (with_reducible refine (rights_eq _ _ _ _ _ HRT.out _ HD.out).mono ?_); rintro e u ⟨rfl, hb⟩; have hk := HK.out.call hb; clear hb; clear HK; have HK := Lib.hid hk; clear hk))
    go_ret
    exact ⟨rfl, HK.out.bel⟩
  | true =>
    rw [show sumOf hs k = sumL hs k by rw [sumOf, hrt]; rfl]
    have HRT := Lib.hid hrt; have HRG := Lib.hid (fun m => sumTo_range (rights_iff.1 hrt).2.1 k m)
    have HRH := Lib.hid (rights_iff.1 hrt).2.1
    clear hrt
    go_enter Try.func53, Try.ntmps53
    go_wp2_with (first
      | (go_at_call 54; (with_reducible refine (rights_eq _ _ _ _ _ HRT.out _ HD.out).mono ?_); rintro e u ⟨rfl, hb⟩; have hk := HK.out.call hb; clear hb; clear HK; have HK := Lib.hid hk; clear hk))
    go_loopw [5, 13] (fun s i wr => ∃ m : Nat, m ≤ n ∧ i = .int .i64 m ∧ s = .int .i64 (sumTo hs k m) ∧ KeepR w [] wr) (fun _ i _ => n - (intOf i).toNat)
    case atStart => exact ⟨0, by omega, rfl, rfl, HK.out⟩
    case round =>
      obtain ⟨m, hm, rfl, rfl, hk⟩ := hrel
      clear HK
      have HK := Lib.hid hk
      clear hk
      have hS := HRG.out m (by have := HL.out; omega)
      by_cases hlt : m < n
      · have hnb := HNB.out
        have hA := rightH_iff.1 (HRH.out _ (getD_mem (show m < hs.length by have := HL.out; omega)))
        obtain ⟨b, off, rfl, hr⟩ := HD.out.at hlt
        have hrm := hr m hlt
        clear hr
        obtain ⟨h, hh⟩ : ∃ h, hs.getD m z5 = h := ⟨_, rfl⟩
        rw [hh] at hrm
        have HH := Lib.hid hh
        have HR := Lib.hid hrm; have HC := Lib.hid (range_lt hrm)
        clear hrm hh
        have i1 : (0 : Int) ≤ (m : Int) := by omega
        have i2 : (m : Int) < (n : Int) := by omega
        rw [HH.out] at hA
        obtain ⟨_, _, _, _, ha1, ha2, _⟩ := hA
        generalize hSS : sumTo hs k m = s at hS
        have HSS := Lib.hid hSS; clear hSS
        cases h1 : (h.r == k) with
        | false =>
          have HNX := Lib.hid (show sumTo hs k (m + 1) = s by rw [sumTo_no (by rw [HH.out]; exact holds_a h1), HSS.out])
          go_wp2_with (first
            | (with_reducible refine load_hold (range_below HR.out HK.out.bel HC.out) _ rfl rfl rfl ?_)
            | (with_reducible refine alloc_zero HK.out 5 h_zero rfl rfl ?_; intro bh u hn hk hb; clear hn hb; clear HK; have HK := Lib.hid hk; clear hk)
            | (with_reducible refine store_all HK.out 0 5 h_info rfl rfl _ _ rfl rfl rfl rfl (Ho.len _) (zer_length 5) ?_; intro u hk hs; clear hs; simp only [List.set_cons_zero] at hk; clear HK; have HK := Lib.hid hk; clear hk)
            | (with_reducible refine load_val HK.out 0 rfl _ rfl rfl rfl (Ho.g0 _) (Ho.p0 _) ?_)
            | (with_reducible refine load_val HK.out 0 rfl _ rfl rfl rfl (Ho.g1 _) (Ho.p1 _) ?_)
            | (with_reducible refine load_val HK.out 0 rfl _ rfl rfl rfl (Ho.g2 _) (Ho.p2 _) ?_)
            | (with_reducible refine load_val HK.out 0 rfl _ rfl rfl rfl (Ho.g3 _) (Ho.p3 _) ?_)
            | (with_reducible refine load_val HK.out 0 rfl _ rfl rfl rfl (Ho.g4 _) (Ho.p4 _) ?_)
            | (with_reducible refine load_val_want HK.out 0 _ rfl rfl rfl rfl (Ho.g0 _) (Ho.p0 _) ?_)
            | (with_reducible refine load_val_want HK.out 0 _ rfl rfl rfl rfl (Ho.g1 _) (Ho.p1 _) ?_)
            | (with_reducible refine load_val_want HK.out 0 _ rfl rfl rfl rfl (Ho.g2 _) (Ho.p2 _) ?_)
            | (with_reducible refine load_val_want HK.out 0 _ rfl rfl rfl rfl (Ho.g3 _) (Ho.p3 _) ?_)
            | (with_reducible refine load_val_want HK.out 0 _ rfl rfl rfl rfl (Ho.g4 _) (Ho.p4 _) ?_)
            | (with_reducible refine eql_want h1 _ _ _ rfl rfl rfl rfl ?_))
          go_roundw
          case rel => exact ⟨m + 1, by omega, by go_num, by rw [HNX.out], HK.out.tail⟩
          case measure => simp [intOf]; omega
        | true =>
          cases h2 : (h.s == 1) with
          | false =>
            have HNX := Lib.hid (show sumTo hs k (m + 1) = s by rw [sumTo_no (by rw [HH.out]; exact holds_b h1 h2), HSS.out])
            go_wp2_with (first
              | (with_reducible refine load_hold (range_below HR.out HK.out.bel HC.out) _ rfl rfl rfl ?_)
              | (with_reducible refine alloc_zero HK.out 5 h_zero rfl rfl ?_; intro bh u hn hk hb; clear hn hb; clear HK; have HK := Lib.hid hk; clear hk)
              | (with_reducible refine store_all HK.out 0 5 h_info rfl rfl _ _ rfl rfl rfl rfl (Ho.len _) (zer_length 5) ?_; intro u hk hs; clear hs; simp only [List.set_cons_zero] at hk; clear HK; have HK := Lib.hid hk; clear hk)
              | (with_reducible refine load_val HK.out 0 rfl _ rfl rfl rfl (Ho.g0 _) (Ho.p0 _) ?_)
              | (with_reducible refine load_val HK.out 0 rfl _ rfl rfl rfl (Ho.g1 _) (Ho.p1 _) ?_)
              | (with_reducible refine load_val HK.out 0 rfl _ rfl rfl rfl (Ho.g2 _) (Ho.p2 _) ?_)
              | (with_reducible refine load_val HK.out 0 rfl _ rfl rfl rfl (Ho.g3 _) (Ho.p3 _) ?_)
              | (with_reducible refine load_val HK.out 0 rfl _ rfl rfl rfl (Ho.g4 _) (Ho.p4 _) ?_)
              | (with_reducible refine load_val_want HK.out 0 _ rfl rfl rfl rfl (Ho.g0 _) (Ho.p0 _) ?_)
              | (with_reducible refine load_val_want HK.out 0 _ rfl rfl rfl rfl (Ho.g1 _) (Ho.p1 _) ?_)
              | (with_reducible refine load_val_want HK.out 0 _ rfl rfl rfl rfl (Ho.g2 _) (Ho.p2 _) ?_)
              | (with_reducible refine load_val_want HK.out 0 _ rfl rfl rfl rfl (Ho.g3 _) (Ho.p3 _) ?_)
              | (with_reducible refine load_val_want HK.out 0 _ rfl rfl rfl rfl (Ho.g4 _) (Ho.p4 _) ?_)
              | (with_reducible refine eql_want h1 _ _ _ rfl rfl rfl rfl ?_)
              | (with_reducible refine eql_want h2 _ _ _ rfl rfl rfl rfl ?_))
            go_roundw
            case rel => exact ⟨m + 1, by omega, by go_num, by rw [HNX.out], HK.out.tail⟩
            case measure => simp [intOf]; omega
          | true =>
            have HNX := Lib.hid (show sumTo hs k (m + 1) = min (s + h.a) 1099511627776 by rw [sumTo_yes (by rw [HH.out]; exact holds_b h1 h2), HSS.out, HH.out])
            go_wp2_with (first
              | (with_reducible refine load_hold (range_below HR.out HK.out.bel HC.out) _ rfl rfl rfl ?_)
              | (with_reducible refine alloc_zero HK.out 5 h_zero rfl rfl ?_; intro bh u hn hk hb; clear hn hb; clear HK; have HK := Lib.hid hk; clear hk)
              | (with_reducible refine store_all HK.out 0 5 h_info rfl rfl _ _ rfl rfl rfl rfl (Ho.len _) (zer_length 5) ?_; intro u hk hs; clear hs; simp only [List.set_cons_zero] at hk; clear HK; have HK := Lib.hid hk; clear hk)
              | (with_reducible refine load_val HK.out 0 rfl _ rfl rfl rfl (Ho.g0 _) (Ho.p0 _) ?_)
              | (with_reducible refine load_val HK.out 0 rfl _ rfl rfl rfl (Ho.g1 _) (Ho.p1 _) ?_)
              | (with_reducible refine load_val HK.out 0 rfl _ rfl rfl rfl (Ho.g2 _) (Ho.p2 _) ?_)
              | (with_reducible refine load_val HK.out 0 rfl _ rfl rfl rfl (Ho.g3 _) (Ho.p3 _) ?_)
              | (with_reducible refine load_val HK.out 0 rfl _ rfl rfl rfl (Ho.g4 _) (Ho.p4 _) ?_)
              | (with_reducible refine load_val_want HK.out 0 _ rfl rfl rfl rfl (Ho.g0 _) (Ho.p0 _) ?_)
              | (with_reducible refine load_val_want HK.out 0 _ rfl rfl rfl rfl (Ho.g1 _) (Ho.p1 _) ?_)
              | (with_reducible refine load_val_want HK.out 0 _ rfl rfl rfl rfl (Ho.g2 _) (Ho.p2 _) ?_)
              | (with_reducible refine load_val_want HK.out 0 _ rfl rfl rfl rfl (Ho.g3 _) (Ho.p3 _) ?_)
              | (with_reducible refine load_val_want HK.out 0 _ rfl rfl rfl rfl (Ho.g4 _) (Ho.p4 _) ?_)
              | (with_reducible refine eql_want h1 _ _ _ rfl rfl rfl rfl ?_)
              | (with_reducible refine eql_want h2 _ _ _ rfl rfl rfl rfl ?_))
            go_roundw
            case rel => exact ⟨m + 1, by omega, by go_num, by rw [HNX.out]; congr 1; split <;> omega, HK.out.tail⟩
            case measure => simp [intOf]; omega
      · obtain rfl : m = n := by omega
        have HF := Lib.hid (show sumTo hs k m = sumL hs k by rw [sumL, HL.out])
        go_wp2
        go_ret
        exact ⟨by rw [← HF.out]; rfl, HK.out.bel⟩
end Go.Proofs.Ytofngihdnjgmeaa
