/- Contracts of hold.Rights and the document's Rights. -/
import Derived.Test.YtofngihdnjgmeaaGreatY01
import Derived.Test.YtofngihdnjgmeaaGreatY07
import Derived.Test.YtofngihdnjgmeaaGreatY09
import Derived.Maps.AppendAt
import Derived.OwnWalk
import Derived.Laws.OwnMore
import Derived.WalkKit
import Derived.ProofKit
import Derived.OpenShut
import Derived.ChangeOld
import Derived.Deep.Slices
import Derived.ChangeSlices
import Derived.Laws.AppendOwn
import Derived.Lib.Hide
import Derived.Deep.RegionHeld3
import Derived.Below
import Derived.Deep.MidRow
import Derived.Deep.QuietTactic
import Derived.BigQuiet
import Derived.Laws.StructEq
namespace Go.Proofs.YtofngihdnjgmeaaGreat
set_option maxRecDepth 100000
open Go.ChangeShapes Go.WideShapes Go.ChangeAt Go.RowKit

theorem nam_any (a b : Ho) (c : Int) (hc : nameC a b = c) (w : World) :
    Calls Tryz.prog 97 #[.agg (vals a.l).toArray, .agg (vals b.l).toArray] w fun e w' => e = .returned (.int .i64 c) ∧ Below w.heap.size w w' := by
  subst hc
  exact (name_any a b w).mono fun e w' ⟨h1, h2, _⟩ => ⟨h1, h2⟩
theorem hrt_any (a : Ho) (r : Bool) (hr : rightH a = r) (w : World) :
    Calls Tryz.prog 125 #[.agg (vals a.l).toArray] w fun e w' => e = .returned (.bool r) ∧ Below w.heap.size w w' := by
  subst hr; exact hright_any a w
theorem upTo_succ {hs : List Ho} {m : Nat} (h : upTo hs m = true) (hr : rightH (hs.getD m z5) = true) (ha : m = 0 ∨ ahB (hs.getD (m - 1) z5) (hs.getD m z5) = true) : upTo hs (m + 1) = true := by
  rw [upTo, h, Bool.true_and, okAt, hr, Bool.true_and]
  rcases ha with ha | ha
  · subst ha; rfl
  · rw [ha, Bool.or_true]
theorem okAt_right {hs : List Ho} {m : Nat} (hr : rightH (hs.getD m z5) = false) : okAt hs m = false := by rw [okAt, hr, Bool.false_and]
theorem okAt_ahead {hs : List Ho} {m : Nat} (h0 : 0 < m) (ha : ahB (hs.getD (m - 1) z5) (hs.getD m z5) = false) : okAt hs m = false := by
  rw [okAt, ha, Bool.or_false, show (m == 0) = false by simp; omega, Bool.and_false]
theorem nameC_yes {a b : Ho} (h : ahB a b = true) : decide (0 ≤ nameC a b) = false := by rw [nameC_geq, h]; rfl
theorem nameC_no {a b : Ho} (h : ahB a b = false) : decide (0 ≤ nameC a b) = true := by rw [nameC_geq, h]; rfl
theorem wrap_sub {m : Nat} (h0 : 0 < m) (h1 : m ≤ 1000) : IntKind.i64.wrap ((m : Int) - 1) = ((m - 1 : Nat) : Int) := by
  rw [show ((m - 1 : Nat) : Int) = (m : Int) - 1 by omega]
  simp [IntKind.wrap, IntKind.bits, IntKind.signed]; omega
set_option maxHeartbeats 4000000 in
set_option maxRecDepth 100000 in
theorem rights_any (A : Option Addr) (n c : Nat) (hs : List Ho) (w : World) (hd : Row w A n hs) :
    Calls Tryz.prog 94 #[.slice A n c] w fun e w' => e = .returned (.bool (rightsL hs)) ∧ Below w.heap.size w w' := by
  have HD := Lib.hid hd; have HL := Lib.hid hd.1; clear hd
  have HK := Lib.hid (KeepR.start w)
  by_cases hn : n ≤ 16
  · have hn' : ¬ (16 : Int) < (n : Int) := by omega
    go_enter Tryz.func94, Tryz.ntmps94
    go_wp2
    go_loopw [10] (fun i wr => ∃ m : Nat, m ≤ n ∧ i = .int .i64 m ∧ upTo hs m = true ∧ KeepR w [] wr) (fun i _ => n - (intOf i).toNat)
    case atStart => exact ⟨0, by omega, rfl, rfl, HK.out⟩
    case round =>
      obtain ⟨m, hm, rfl, hu, hk⟩ := hrel
      clear HK
      have HK := Lib.hid hk; have HU := Lib.hid hu
      clear hk hu
      by_cases hlt : m < n
      · obtain ⟨b, off, rfl, hr⟩ := HD.out.at hlt
        have hrm := hr m hlt
        have HRA := Lib.hid hr; clear hr
        obtain ⟨h, hh⟩ : ∃ h, hs.getD m z5 = h := ⟨_, rfl⟩
        rw [hh] at hrm
        have HH := Lib.hid hh
        have HR := Lib.hid hrm; have HC := Lib.hid (range_lt hrm)
        clear hrm hh
        have i1 : (0 : Int) ≤ (m : Int) := by omega
        have i2 : (m : Int) < (n : Int) := by omega
        cases hrh : rightH h with
        | false =>
          have HRH := Lib.hid hrh; clear hrh
          have HF := Lib.hid (show rightsL hs = false from rights_fail (m := m) (by have := HL.out; omega) (okAt_right (by rw [HH.out]; exact HRH.out)))
          go_wp2_with (first
            | (with_reducible refine load_hold (range_below HR.out HK.out.bel HC.out) _ rfl rfl rfl ?_)
            | (with_reducible refine alloc_zero HK.out 5 h_zero rfl rfl ?_; intro bh u hn hk hb; clear hn hb; clear HK; have HK := Lib.hid hk; clear hk)
            | (with_reducible refine store_all HK.out 0 5 h_info rfl rfl _ _ rfl rfl rfl rfl (Ho.len _) (zer_length 5) ?_; intro u hk hs; clear hs; simp only [List.set_cons_zero] at hk; clear HK; have HK := Lib.hid hk; clear hk))
          refine Draws.start (S := fun u => KeepR w [(bh, 55, h.l)] u) (n := 17) 17 rfl (by kernel_rfl) ?_
          have HS := Lib.hid (show (fun u => KeepR w [(bh, 55, h.l)] u) _ from HK.out.drew)
          refine Draws.take 0 HS.out rfl (by kernel_rfl) (fun _ _ _ h => h) (yield_all (fun _ h => h) 0 5 Tryz.underlying55 rfl h_info rfl _ rfl rfl rfl (Ho.len _)) ?_
          (try simp only [Act.put, List.setIfInBounds_toArray, List.set_cons_zero, List.set_cons_succ])
          refine Draws.does 1 rfl (by kernel_rfl) rfl (fun K hK => ?_)
          go_simp
          go_at_call 125
          refine (hrt_any _ _ HRH.out _).mono ?_
          rintro e u ⟨rfl, hb⟩
          (try dsimp only)
          refine hK.out _ _ (fun _ => HS.out.call hb) ?_
          clear hK K
          have hs : (fun u => KeepR w [(bh, 55, h.l)] u) u := HS.out.call hb
          clear HS
          have HS := Lib.hid hs; clear hs
          (try simp only [Act.put, List.setIfInBounds_toArray, List.set_cons_zero, List.set_cons_succ])
          clear hb
          refine Draws.take 2 (v := ?v1) HS.out rfl (by kernel_rfl) (fun _ _ _ h => h) (Or.inl ⟨rfl, ?h1⟩) ?r1
          case h1 => intro w' hw'; go_simp; (try with_reducible rfl)
          (try simp only [Act.put, List.setIfInBounds_toArray, List.set_cons_zero, List.set_cons_succ])
          refine Draws.take 3 (v := ?v2) HS.out rfl (by kernel_rfl) (fun _ _ _ h => h) (Or.inl ⟨rfl, ?h2⟩) ?r2
          case h2 => intro w' hw'; go_simp; (try with_reducible rfl)
          (try simp only [Act.put, List.setIfInBounds_toArray, List.set_cons_zero, List.set_cons_succ])
          refine Draws.take 4 HS.out rfl (by kernel_rfl) (fun _ _ _ h => h) (Or.inr ⟨rfl, rfl⟩) ?_
          (try simp only [Act.put, List.setIfInBounds_toArray, List.set_cons_zero, List.set_cons_succ])
          refine Draws.take 5 HS.out rfl (by kernel_rfl) (fun _ _ _ h => h) (Or.inr ⟨rfl, rfl⟩) ?_
          (try simp only [Act.put, List.setIfInBounds_toArray, List.set_cons_zero, List.set_cons_succ])
          refine Draws.take 6 HS.out rfl (by kernel_rfl) (fun _ _ _ h => h) (Or.inr ⟨rfl, rfl⟩) ?_
          (try simp only [Act.put, List.setIfInBounds_toArray, List.set_cons_zero, List.set_cons_succ])
          refine Draws.take 7 HS.out rfl (by kernel_rfl) (fun _ _ _ h => h) (Or.inr ⟨rfl, rfl⟩) ?_
          (try simp only [Act.put, List.setIfInBounds_toArray, List.set_cons_zero, List.set_cons_succ])
          refine Draws.take 8 HS.out rfl (by kernel_rfl) (fun _ _ _ h => h) (Or.inr ⟨rfl, rfl⟩) ?_
          (try simp only [Act.put, List.setIfInBounds_toArray, List.set_cons_zero, List.set_cons_succ])
          refine Draws.take 9 HS.out rfl (by kernel_rfl) (fun _ _ _ h => h) (Or.inr ⟨rfl, rfl⟩) ?_
          (try simp only [Act.put, List.setIfInBounds_toArray, List.set_cons_zero, List.set_cons_succ])
          refine Draws.take 10 HS.out rfl (by kernel_rfl) (fun _ _ _ h => h) (Or.inr ⟨rfl, rfl⟩) ?_
          (try simp only [Act.put, List.setIfInBounds_toArray, List.set_cons_zero, List.set_cons_succ])
          refine Draws.take 11 HS.out rfl (by kernel_rfl) (fun _ _ _ h => h) (Or.inr ⟨rfl, rfl⟩) ?_
          (try simp only [Act.put, List.setIfInBounds_toArray, List.set_cons_zero, List.set_cons_succ])
          refine Draws.take 12 HS.out rfl (by kernel_rfl) (fun _ _ _ h => h) (Or.inr ⟨rfl, rfl⟩) ?_
          (try simp only [Act.put, List.setIfInBounds_toArray, List.set_cons_zero, List.set_cons_succ])
          refine Draws.take 13 HS.out rfl (by kernel_rfl) (fun _ _ _ h => h) (Or.inr ⟨rfl, rfl⟩) ?_
          (try simp only [Act.put, List.setIfInBounds_toArray, List.set_cons_zero, List.set_cons_succ])
          refine Draws.take 14 HS.out rfl (by kernel_rfl) (fun _ _ _ h => h) (Or.inr ⟨rfl, rfl⟩) ?_
          (try simp only [Act.put, List.setIfInBounds_toArray, List.set_cons_zero, List.set_cons_succ])
          refine Draws.take 15 HS.out rfl (by kernel_rfl) (fun _ _ _ h => h) (Or.inr ⟨rfl, rfl⟩) ?_
          (try simp only [Act.put, List.setIfInBounds_toArray, List.set_cons_zero, List.set_cons_succ])
          refine Draws.take 16 (v := ?v3) HS.out rfl (by kernel_rfl) (fun _ _ _ h => h) (Or.inl ⟨rfl, ?h3⟩) ?r3
          case h3 => intro w' hw'; go_simp; (try with_reducible rfl)
          (try simp only [Act.put, List.setIfInBounds_toArray, List.set_cons_zero, List.set_cons_succ])
          refine Draws.done (by kernel_rfl) ?_
          go_wp2
          go_ret
          exact ⟨by rw [HF.out]; rfl, HS.out.bel⟩
        | true =>
          have HRH := Lib.hid hrh; clear hrh
          by_cases hm0 : m = 0
          · have HZ := Lib.hid (show decide (0 < (m : Int)) = false by simp; omega)
            have HM := Lib.hid hm0; clear hm0
            go_wp2_with (first
              | (with_reducible refine load_hold (range_below HR.out HK.out.bel HC.out) _ rfl rfl rfl ?_)
              | (with_reducible refine alloc_zero HK.out 5 h_zero rfl rfl ?_; intro bh u hn hk hb; clear hn hb; clear HK; have HK := Lib.hid hk; clear hk)
              | (with_reducible refine store_all HK.out 0 5 h_info rfl rfl _ _ rfl rfl rfl rfl (Ho.len _) (zer_length 5) ?_; intro u hk hs; clear hs; simp only [List.set_cons_zero] at hk; clear HK; have HK := Lib.hid hk; clear hk))
            refine Draws.start (S := fun u => KeepR w [(bh, 55, h.l)] u) (n := 17) 17 rfl (by kernel_rfl) ?_
            have HS := Lib.hid (show (fun u => KeepR w [(bh, 55, h.l)] u) _ from HK.out.drew)
            refine Draws.take 0 HS.out rfl (by kernel_rfl) (fun _ _ _ h => h) (yield_all (fun _ h => h) 0 5 Tryz.underlying55 rfl h_info rfl _ rfl rfl rfl (Ho.len _)) ?_
            (try simp only [Act.put, List.setIfInBounds_toArray, List.set_cons_zero, List.set_cons_succ])
            refine Draws.does 1 rfl (by kernel_rfl) rfl (fun K hK => ?_)
            go_simp
            go_at_call 125
            refine (hrt_any _ _ HRH.out _).mono ?_
            rintro e u ⟨rfl, hb⟩
            (try dsimp only)
            refine hK.out _ _ (fun _ => HS.out.call hb) ?_
            clear hK K
            have hs : (fun u => KeepR w [(bh, 55, h.l)] u) u := HS.out.call hb
            clear HS
            have HS := Lib.hid hs; clear hs
            (try simp only [Act.put, List.setIfInBounds_toArray, List.set_cons_zero, List.set_cons_succ])
            clear hb
            refine Draws.take 2 (v := ?v4) HS.out rfl (by kernel_rfl) (fun _ _ _ h => h) (Or.inl ⟨rfl, ?h4⟩) ?r4
            case h4 => intro w' hw'; go_simp; (try with_reducible rfl)
            (try simp only [Act.put, List.setIfInBounds_toArray, List.set_cons_zero, List.set_cons_succ])
            refine Draws.take 3 (v := ?v5) HS.out rfl (by kernel_rfl) (fun _ _ _ h => h) (Or.inl ⟨rfl, ?h5⟩) ?r5
            case h5 => intro w' hw'; go_simp; (try with_reducible rfl)
            (try simp only [Act.put, List.setIfInBounds_toArray, List.set_cons_zero, List.set_cons_succ])
            refine Draws.take 4 (v := ?v6) HS.out rfl (by kernel_rfl) (fun _ _ _ h => h) (Or.inl ⟨rfl, ?h6⟩) ?r6
            case h6 => intro w' hw'; go_simp; (try with_reducible rfl)
            (try simp only [Act.put, List.setIfInBounds_toArray, List.set_cons_zero, List.set_cons_succ])
            refine Draws.take 5 HS.out rfl (by kernel_rfl) (fun _ _ _ h => h) (yield_gtr HZ.out _ _ _ rfl rfl rfl rfl) ?_
            (try simp only [Act.put, List.setIfInBounds_toArray, List.set_cons_zero, List.set_cons_succ])
            refine Draws.take 6 (v := ?v7) HS.out rfl (by kernel_rfl) (fun _ _ _ h => h) (Or.inl ⟨rfl, ?h7⟩) ?r7
            case h7 => intro w' hw'; go_simp; (try with_reducible rfl)
            (try simp only [Act.put, List.setIfInBounds_toArray, List.set_cons_zero, List.set_cons_succ])
            refine Draws.take 7 HS.out rfl (by kernel_rfl) (fun _ _ _ h => h) (Or.inr ⟨rfl, rfl⟩) ?_
            (try simp only [Act.put, List.setIfInBounds_toArray, List.set_cons_zero, List.set_cons_succ])
            refine Draws.take 8 HS.out rfl (by kernel_rfl) (fun _ _ _ h => h) (Or.inr ⟨rfl, rfl⟩) ?_
            (try simp only [Act.put, List.setIfInBounds_toArray, List.set_cons_zero, List.set_cons_succ])
            refine Draws.take 9 HS.out rfl (by kernel_rfl) (fun _ _ _ h => h) (Or.inr ⟨rfl, rfl⟩) ?_
            (try simp only [Act.put, List.setIfInBounds_toArray, List.set_cons_zero, List.set_cons_succ])
            refine Draws.take 10 HS.out rfl (by kernel_rfl) (fun _ _ _ h => h) (Or.inr ⟨rfl, rfl⟩) ?_
            (try simp only [Act.put, List.setIfInBounds_toArray, List.set_cons_zero, List.set_cons_succ])
            refine Draws.take 11 HS.out rfl (by kernel_rfl) (fun _ _ _ h => h) (Or.inr ⟨rfl, rfl⟩) ?_
            (try simp only [Act.put, List.setIfInBounds_toArray, List.set_cons_zero, List.set_cons_succ])
            refine Draws.take 12 HS.out rfl (by kernel_rfl) (fun _ _ _ h => h) (Or.inr ⟨rfl, rfl⟩) ?_
            (try simp only [Act.put, List.setIfInBounds_toArray, List.set_cons_zero, List.set_cons_succ])
            refine Draws.take 13 HS.out rfl (by kernel_rfl) (fun _ _ _ h => h) (Or.inr ⟨rfl, rfl⟩) ?_
            (try simp only [Act.put, List.setIfInBounds_toArray, List.set_cons_zero, List.set_cons_succ])
            refine Draws.take 14 HS.out rfl (by kernel_rfl) (fun _ _ _ h => h) (Or.inr ⟨rfl, rfl⟩) ?_
            (try simp only [Act.put, List.setIfInBounds_toArray, List.set_cons_zero, List.set_cons_succ])
            refine Draws.take 15 (v := ?v8) HS.out rfl (by kernel_rfl) (fun _ _ _ h => h) (Or.inl ⟨rfl, ?h8⟩) ?r8
            case h8 => intro w' hw'; go_simp; (try with_reducible rfl)
            (try simp only [Act.put, List.setIfInBounds_toArray, List.set_cons_zero, List.set_cons_succ])
            refine Draws.take 16 (v := ?v9) HS.out rfl (by kernel_rfl) (fun _ _ _ h => h) (Or.inl ⟨rfl, ?h9⟩) ?r9
            case h9 => intro w' hw'; go_simp; (try with_reducible rfl)
            (try simp only [Act.put, List.setIfInBounds_toArray, List.set_cons_zero, List.set_cons_succ])
            refine Draws.done (by kernel_rfl) ?_
            go_wp2
            go_roundw
            case rel => exact ⟨m + 1, by omega, by go_num, upTo_succ HU.out (by rw [HH.out]; exact HRH.out) (.inl HM.out), HS.out.tail⟩
            case measure => simp [intOf]; omega
          · have HZ := Lib.hid (show decide (0 < (m : Int)) = true by simp; omega)
            have HQ := Lib.hid (wrap_sub (m := m) (by omega) (by omega))
            have hq2 : ((m - 1 : Nat) : Int) < (n : Int) := by omega
            have hq3 : m - 1 < n := by omega
            have hq4 : m - 1 + 1 = m := by omega
            generalize hqe : m - 1 = q at HQ hq2 hq3 hq4
            have HQE := Lib.hid hqe; have HQ4 := Lib.hid hq4
            clear hqe hq4
            have hq1 : (0 : Int) ≤ (q : Int) := by omega
            have hrp := HRA.out q hq3
            obtain ⟨p, hp⟩ : ∃ p, hs.getD q z5 = p := ⟨_, rfl⟩
            rw [hp] at hrp
            have HPE := Lib.hid hp
            have HP := Lib.hid hrp; have HCP := Lib.hid (range_lt hrp)
            clear hrp hp hq3
            obtain ⟨cc, hcc⟩ : ∃ cc, nameC p h = cc := ⟨_, rfl⟩
            have HCN := Lib.hid hcc
            cases hah : ahB p h with
            | false =>
              have hge := nameC_no hah
              rw [hcc] at hge
              have HGE := Lib.hid hge; clear hge
              have HF := Lib.hid (show rightsL hs = false from rights_fail (m := m) (by have := HL.out; omega) (okAt_ahead (by have := HQ4.out; omega) (by rw [HQE.out, HPE.out, HH.out]; exact hah)))
              clear hcc hah
              go_wp2_with (first
                | (with_reducible refine load_hold (range_below HR.out HK.out.bel HC.out) _ rfl rfl rfl ?_)
                | (with_reducible refine alloc_zero HK.out 5 h_zero rfl rfl ?_; intro bh u hn hk hb; clear hn hb; clear HK; have HK := Lib.hid hk; clear hk)
                | (with_reducible refine store_all HK.out 0 5 h_info rfl rfl _ _ rfl rfl rfl rfl (Ho.len _) (zer_length 5) ?_; intro u hk hs; clear hs; simp only [List.set_cons_zero] at hk; clear HK; have HK := Lib.hid hk; clear hk))
              refine Draws.start (S := fun u => KeepR w [(bh, 55, h.l)] u) (n := 17) 17 rfl (by kernel_rfl) ?_
              have HS := Lib.hid (show (fun u => KeepR w [(bh, 55, h.l)] u) _ from HK.out.drew)
              refine Draws.take 0 HS.out rfl (by kernel_rfl) (fun _ _ _ h => h) (yield_all (fun _ h => h) 0 5 Tryz.underlying55 rfl h_info rfl _ rfl rfl rfl (Ho.len _)) ?_
              (try simp only [Act.put, List.setIfInBounds_toArray, List.set_cons_zero, List.set_cons_succ])
              refine Draws.does 1 rfl (by kernel_rfl) rfl (fun K hK => ?_)
              go_simp
              go_at_call 125
              refine (hrt_any _ _ HRH.out _).mono ?_
              rintro e u ⟨rfl, hb⟩
              (try dsimp only)
              refine hK.out _ _ (fun _ => HS.out.call hb) ?_
              clear hK K
              have hs : (fun u => KeepR w [(bh, 55, h.l)] u) u := HS.out.call hb
              clear HS
              have HS := Lib.hid hs; clear hs
              (try simp only [Act.put, List.setIfInBounds_toArray, List.set_cons_zero, List.set_cons_succ])
              clear hb
              refine Draws.take 2 (v := ?v10) HS.out rfl (by kernel_rfl) (fun _ _ _ h => h) (Or.inl ⟨rfl, ?h10⟩) ?r10
              case h10 => intro w' hw'; go_simp; (try with_reducible rfl)
              (try simp only [Act.put, List.setIfInBounds_toArray, List.set_cons_zero, List.set_cons_succ])
              refine Draws.take 3 (v := ?v11) HS.out rfl (by kernel_rfl) (fun _ _ _ h => h) (Or.inl ⟨rfl, ?h11⟩) ?r11
              case h11 => intro w' hw'; go_simp; (try with_reducible rfl)
              (try simp only [Act.put, List.setIfInBounds_toArray, List.set_cons_zero, List.set_cons_succ])
              refine Draws.take 4 (v := ?v12) HS.out rfl (by kernel_rfl) (fun _ _ _ h => h) (Or.inl ⟨rfl, ?h12⟩) ?r12
              case h12 => intro w' hw'; go_simp; (try with_reducible rfl)
              (try simp only [Act.put, List.setIfInBounds_toArray, List.set_cons_zero, List.set_cons_succ])
              refine Draws.take 5 HS.out rfl (by kernel_rfl) (fun _ _ _ h => h) (yield_gtr HZ.out _ _ _ rfl rfl rfl rfl) ?_
              (try simp only [Act.put, List.setIfInBounds_toArray, List.set_cons_zero, List.set_cons_succ])
              refine Draws.take 6 (v := ?v13) HS.out rfl (by kernel_rfl) (fun _ _ _ h => h) (Or.inl ⟨rfl, ?h13⟩) ?r13
              case h13 => intro w' hw'; go_simp; (try with_reducible rfl)
              (try simp only [Act.put, List.setIfInBounds_toArray, List.set_cons_zero, List.set_cons_succ])
              refine Draws.take 7 (v := ?v14) HS.out rfl (by kernel_rfl) (fun _ _ _ h => h) (Or.inl ⟨rfl, ?h14⟩) ?r14
              case h14 => intro w' hw'; go_simp; (try with_reducible rfl)
              (try simp only [Act.put, List.setIfInBounds_toArray, List.set_cons_zero, List.set_cons_succ])
              refine Draws.take 8 (v := ?v15) HS.out rfl (by kernel_rfl) (fun _ _ _ h => h) (Or.inl ⟨rfl, ?h15⟩) ?r15
              case h15 => intro w' hw'; go_simp; (try with_reducible rfl)
              (try simp only [Act.put, List.setIfInBounds_toArray, List.set_cons_zero, List.set_cons_succ])
              refine Draws.take 9 HS.out rfl (by kernel_rfl) (fun _ _ _ h => h) (yield_sub HQ.out _ _ _ rfl rfl rfl rfl) ?_
              (try simp only [Act.put, List.setIfInBounds_toArray, List.set_cons_zero, List.set_cons_succ])
              refine Draws.take 10 (v := ?v16) HS.out rfl (by kernel_rfl) (fun _ _ _ h => h) (Or.inl ⟨rfl, ?h16⟩) ?r16
              case h16 => intro w' hw'; go_simp; (try with_reducible rfl)
              (try simp only [Act.put, List.setIfInBounds_toArray, List.set_cons_zero, List.set_cons_succ])
              refine Draws.take 11 HS.out rfl (by kernel_rfl) (fun _ _ _ h => h) (yield_hold (fun _ h => range_below HP.out h.bel HCP.out) _ rfl rfl rfl) ?_
              (try simp only [Act.put, List.setIfInBounds_toArray, List.set_cons_zero, List.set_cons_succ])
              refine Draws.take 12 HS.out rfl (by kernel_rfl) (fun _ _ _ h => h) (yield_all (fun _ h => h) 0 5 Tryz.underlying55 rfl h_info rfl _ rfl rfl rfl (Ho.len _)) ?_
              (try simp only [Act.put, List.setIfInBounds_toArray, List.set_cons_zero, List.set_cons_succ])
              refine Draws.does 13 rfl (by kernel_rfl) rfl (fun K hK => ?_)
              go_simp
              go_at_call 97
              refine (nam_any _ _ _ HCN.out _).mono ?_
              rintro e u ⟨rfl, hb⟩
              (try dsimp only)
              refine hK.out _ _ (fun _ => HS.out.call hb) ?_
              clear hK K
              have hs : (fun u => KeepR w [(bh, 55, h.l)] u) u := HS.out.call hb
              clear HS
              have HS := Lib.hid hs; clear hs
              (try simp only [Act.put, List.setIfInBounds_toArray, List.set_cons_zero, List.set_cons_succ])
              clear hb
              refine Draws.take 14 HS.out rfl (by kernel_rfl) (fun _ _ _ h => h) (yield_geq HGE.out _ _ _ rfl rfl rfl rfl) ?_
              (try simp only [Act.put, List.setIfInBounds_toArray, List.set_cons_zero, List.set_cons_succ])
              refine Draws.take 15 (v := ?v17) HS.out rfl (by kernel_rfl) (fun _ _ _ h => h) (Or.inl ⟨rfl, ?h17⟩) ?r17
              case h17 => intro w' hw'; go_simp; (try with_reducible rfl)
              (try simp only [Act.put, List.setIfInBounds_toArray, List.set_cons_zero, List.set_cons_succ])
              refine Draws.take 16 (v := ?v18) HS.out rfl (by kernel_rfl) (fun _ _ _ h => h) (Or.inl ⟨rfl, ?h18⟩) ?r18
              case h18 => intro w' hw'; go_simp; (try with_reducible rfl)
              (try simp only [Act.put, List.setIfInBounds_toArray, List.set_cons_zero, List.set_cons_succ])
              refine Draws.done (by kernel_rfl) ?_
              go_wp2
              go_ret
              exact ⟨by rw [HF.out]; rfl, HS.out.bel⟩
            | true =>
              have hge := nameC_yes hah
              rw [hcc] at hge
              have HGE := Lib.hid hge; clear hge
              have HAH := Lib.hid hah
              clear hcc hah
              go_wp2_with (first
                | (with_reducible refine load_hold (range_below HR.out HK.out.bel HC.out) _ rfl rfl rfl ?_)
                | (with_reducible refine alloc_zero HK.out 5 h_zero rfl rfl ?_; intro bh u hn hk hb; clear hn hb; clear HK; have HK := Lib.hid hk; clear hk)
                | (with_reducible refine store_all HK.out 0 5 h_info rfl rfl _ _ rfl rfl rfl rfl (Ho.len _) (zer_length 5) ?_; intro u hk hs; clear hs; simp only [List.set_cons_zero] at hk; clear HK; have HK := Lib.hid hk; clear hk))
              refine Draws.start (S := fun u => KeepR w [(bh, 55, h.l)] u) (n := 17) 17 rfl (by kernel_rfl) ?_
              have HS := Lib.hid (show (fun u => KeepR w [(bh, 55, h.l)] u) _ from HK.out.drew)
              refine Draws.take 0 HS.out rfl (by kernel_rfl) (fun _ _ _ h => h) (yield_all (fun _ h => h) 0 5 Tryz.underlying55 rfl h_info rfl _ rfl rfl rfl (Ho.len _)) ?_
              (try simp only [Act.put, List.setIfInBounds_toArray, List.set_cons_zero, List.set_cons_succ])
              refine Draws.does 1 rfl (by kernel_rfl) rfl (fun K hK => ?_)
              go_simp
              go_at_call 125
              refine (hrt_any _ _ HRH.out _).mono ?_
              rintro e u ⟨rfl, hb⟩
              (try dsimp only)
              refine hK.out _ _ (fun _ => HS.out.call hb) ?_
              clear hK K
              have hs : (fun u => KeepR w [(bh, 55, h.l)] u) u := HS.out.call hb
              clear HS
              have HS := Lib.hid hs; clear hs
              (try simp only [Act.put, List.setIfInBounds_toArray, List.set_cons_zero, List.set_cons_succ])
              clear hb
              refine Draws.take 2 (v := ?v19) HS.out rfl (by kernel_rfl) (fun _ _ _ h => h) (Or.inl ⟨rfl, ?h19⟩) ?r19
              case h19 => intro w' hw'; go_simp; (try with_reducible rfl)
              (try simp only [Act.put, List.setIfInBounds_toArray, List.set_cons_zero, List.set_cons_succ])
              refine Draws.take 3 (v := ?v20) HS.out rfl (by kernel_rfl) (fun _ _ _ h => h) (Or.inl ⟨rfl, ?h20⟩) ?r20
              case h20 => intro w' hw'; go_simp; (try with_reducible rfl)
              (try simp only [Act.put, List.setIfInBounds_toArray, List.set_cons_zero, List.set_cons_succ])
              refine Draws.take 4 (v := ?v21) HS.out rfl (by kernel_rfl) (fun _ _ _ h => h) (Or.inl ⟨rfl, ?h21⟩) ?r21
              case h21 => intro w' hw'; go_simp; (try with_reducible rfl)
              (try simp only [Act.put, List.setIfInBounds_toArray, List.set_cons_zero, List.set_cons_succ])
              refine Draws.take 5 HS.out rfl (by kernel_rfl) (fun _ _ _ h => h) (yield_gtr HZ.out _ _ _ rfl rfl rfl rfl) ?_
              (try simp only [Act.put, List.setIfInBounds_toArray, List.set_cons_zero, List.set_cons_succ])
              refine Draws.take 6 (v := ?v22) HS.out rfl (by kernel_rfl) (fun _ _ _ h => h) (Or.inl ⟨rfl, ?h22⟩) ?r22
              case h22 => intro w' hw'; go_simp; (try with_reducible rfl)
              (try simp only [Act.put, List.setIfInBounds_toArray, List.set_cons_zero, List.set_cons_succ])
              refine Draws.take 7 (v := ?v23) HS.out rfl (by kernel_rfl) (fun _ _ _ h => h) (Or.inl ⟨rfl, ?h23⟩) ?r23
              case h23 => intro w' hw'; go_simp; (try with_reducible rfl)
              (try simp only [Act.put, List.setIfInBounds_toArray, List.set_cons_zero, List.set_cons_succ])
              refine Draws.take 8 (v := ?v24) HS.out rfl (by kernel_rfl) (fun _ _ _ h => h) (Or.inl ⟨rfl, ?h24⟩) ?r24
              case h24 => intro w' hw'; go_simp; (try with_reducible rfl)
              (try simp only [Act.put, List.setIfInBounds_toArray, List.set_cons_zero, List.set_cons_succ])
              refine Draws.take 9 HS.out rfl (by kernel_rfl) (fun _ _ _ h => h) (yield_sub HQ.out _ _ _ rfl rfl rfl rfl) ?_
              (try simp only [Act.put, List.setIfInBounds_toArray, List.set_cons_zero, List.set_cons_succ])
              refine Draws.take 10 (v := ?v25) HS.out rfl (by kernel_rfl) (fun _ _ _ h => h) (Or.inl ⟨rfl, ?h25⟩) ?r25
              case h25 => intro w' hw'; go_simp; (try with_reducible rfl)
              (try simp only [Act.put, List.setIfInBounds_toArray, List.set_cons_zero, List.set_cons_succ])
              refine Draws.take 11 HS.out rfl (by kernel_rfl) (fun _ _ _ h => h) (yield_hold (fun _ h => range_below HP.out h.bel HCP.out) _ rfl rfl rfl) ?_
              (try simp only [Act.put, List.setIfInBounds_toArray, List.set_cons_zero, List.set_cons_succ])
              refine Draws.take 12 HS.out rfl (by kernel_rfl) (fun _ _ _ h => h) (yield_all (fun _ h => h) 0 5 Tryz.underlying55 rfl h_info rfl _ rfl rfl rfl (Ho.len _)) ?_
              (try simp only [Act.put, List.setIfInBounds_toArray, List.set_cons_zero, List.set_cons_succ])
              refine Draws.does 13 rfl (by kernel_rfl) rfl (fun K hK => ?_)
              go_simp
              go_at_call 97
              refine (nam_any _ _ _ HCN.out _).mono ?_
              rintro e u ⟨rfl, hb⟩
              (try dsimp only)
              refine hK.out _ _ (fun _ => HS.out.call hb) ?_
              clear hK K
              have hs : (fun u => KeepR w [(bh, 55, h.l)] u) u := HS.out.call hb
              clear HS
              have HS := Lib.hid hs; clear hs
              (try simp only [Act.put, List.setIfInBounds_toArray, List.set_cons_zero, List.set_cons_succ])
              clear hb
              refine Draws.take 14 HS.out rfl (by kernel_rfl) (fun _ _ _ h => h) (yield_geq HGE.out _ _ _ rfl rfl rfl rfl) ?_
              (try simp only [Act.put, List.setIfInBounds_toArray, List.set_cons_zero, List.set_cons_succ])
              refine Draws.take 15 (v := ?v26) HS.out rfl (by kernel_rfl) (fun _ _ _ h => h) (Or.inl ⟨rfl, ?h26⟩) ?r26
              case h26 => intro w' hw'; go_simp; (try with_reducible rfl)
              (try simp only [Act.put, List.setIfInBounds_toArray, List.set_cons_zero, List.set_cons_succ])
              refine Draws.take 16 (v := ?v27) HS.out rfl (by kernel_rfl) (fun _ _ _ h => h) (Or.inl ⟨rfl, ?h27⟩) ?r27
              case h27 => intro w' hw'; go_simp; (try with_reducible rfl)
              (try simp only [Act.put, List.setIfInBounds_toArray, List.set_cons_zero, List.set_cons_succ])
              refine Draws.done (by kernel_rfl) ?_
              go_wp2
              go_roundw
              case rel => exact ⟨m + 1, by omega, by go_num, upTo_succ HU.out (by rw [HH.out]; exact HRH.out) (.inr (by rw [HQE.out, HPE.out, HH.out]; exact HAH.out)), HS.out.tail⟩
              case measure => simp [intOf]; omega
      · obtain rfl : m = n := by omega
        have HF := Lib.hid (show rightsL hs = true from rights_all (by have := HL.out; omega) (by rw [HL.out]; exact HU.out))
        go_wp2
        go_ret
        exact ⟨by rw [HF.out]; rfl, HK.out.bel⟩
  · have hn' : (16 : Int) < (n : Int) := by omega
    have HF := Lib.hid (show rightsL hs = false from rights_long (by have := HL.out; omega))
    go_enter Tryz.func94, Tryz.ntmps94
    go_wp2
    go_ret
    exact ⟨by rw [HF.out]; rfl, HK.out.bel⟩
end Go.Proofs.YtofngihdnjgmeaaGreat
