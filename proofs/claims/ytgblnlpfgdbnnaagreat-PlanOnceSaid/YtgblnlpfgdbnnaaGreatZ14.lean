/- Contracts of hold.Rights and the document's Rights.; Contracts of Right, of both, with isRightCounter, isRightLock and layer 5's Right of the document.; Fields in a row: where one is (plan.Find, the document's at), and whether they may be (plan.Fields, the document's Fields). -/
import Derived.Test.YtgblnlpfgdbnnaaGreatZ17
import Derived.Test.YtgblnlpfgdbnnaaGreatZ25A
namespace Go.Proofs.YtgblnlpfgdbnnaaGreat
set_option maxRecDepth 100000
open Go.ChangeShapes Go.WideShapes Go.ChangeAt Go.RowKit

theorem rrt_any (a : Ho) (r : Bool) (hr : rightH a = r) (w : World) :
    Calls Tryz.prog 110 #[.agg (vals a.l).toArray] w fun e w' => e = .returned (.bool r) ∧ Below w.heap.size w w' := by
  subst hr; exact rright_anyH a w
theorem aha_any (a b : Ho) (r : Bool) (hr : ahB a b = r) (w : World) :
    Calls Tryz.prog 111 #[.agg (vals a.l).toArray, .agg (vals b.l).toArray] w fun e w' => e = .returned (.bool r) ∧ Below w.heap.size w w' := by
  subst hr; exact ahead_any a b w
set_option maxHeartbeats 4000000 in
set_option maxRecDepth 100000 in
theorem rrights_any (A : Option Addr) (n c : Nat) (hs : List Ho) (w : World) (hd : Row w A n hs) :
    Calls Tryz.prog 70 #[.slice A n c] w fun e w' => e = .returned (.bool (rightsL hs)) ∧ Below w.heap.size w w' := by
  have HD := Lib.hid hd; have HL := Lib.hid hd.1; have HN := Lib.hid hd.2.1; clear hd
  have HK := Lib.hid (KeepR.start w)
  go_enter Tryz.func70, Tryz.ntmps70
  go_wp2
  go_loopw [3] (fun i wr => ∃ m : Nat, m ≤ n ∧ i = .int .i64 m ∧ upTo hs m = true ∧ KeepR w [] wr) (fun i _ => n - (intOf i).toNat)
  case atStart => exact ⟨0, by omega, rfl, rfl, HK.out⟩
  case round =>
    obtain ⟨m, hm, rfl, hu, hk⟩ := hrel
    clear HK
    have HK := Lib.hid hk; have HU := Lib.hid hu
    clear hk hu
    by_cases hlt : m < n
    · obtain ⟨b, off, rfl, hr⟩ := HD.out.at hlt
      have hrm := hr m hlt
      have HRA := Lib.hid hr; clear hr
      obtain ⟨h, hh⟩ : ∃ h, hs.getD m z5 = h := ⟨_, rfl⟩
      rw [hh] at hrm
      have HH := Lib.hid hh
      have HR := Lib.hid hrm; have HC := Lib.hid (range_lt hrm)
      clear hrm hh
      have i1 : (0 : Int) ≤ (m : Int) := by omega
      have i2 : (m : Int) < (n : Int) := by omega
      have hn := HN.out
      cases hrh : rightH h with
      | false =>
        have HRH := Lib.hid hrh; clear hrh
        have HF := Lib.hid (show rightsL hs = false from rights_fail (m := m) (by have := HL.out; omega) (okAt_right (by rw [HH.out]; exact HRH.out)))
        go_wp2
        refine Draws.start (S := fun u => KeepR w [] u) (n := 23) 23 rfl (by kernel_rfl) ?_
        have HS := Lib.hid (show (fun u => KeepR w [] u) _ from HK.out.drew)
        refine Draws.take 0 (v := ?v28) HS.out rfl (by kernel_rfl) (fun _ _ _ h => h) (Or.inl ⟨rfl, ?h28⟩) ?r28
        case h28 => intro w' hw'; go_simp; (try with_reducible rfl)
        (try simp only [Act.put, lsA, lsB, lsC])
        refine Draws.take 1 (v := ?v29) HS.out rfl (by kernel_rfl) (fun _ _ _ h => h) (Or.inl ⟨rfl, ?h29⟩) ?r29
        case h29 => intro w' hw'; go_simp; (try with_reducible rfl)
        (try simp only [Act.put, lsA, lsB, lsC])
        refine Draws.take 2 (v := ?v30) HS.out rfl (by kernel_rfl) (fun _ _ _ h => h) (Or.inl ⟨rfl, ?h30⟩) ?r30
        case h30 => intro w' hw'; go_simp; (try with_reducible rfl)
        (try simp only [Act.put, lsA, lsB, lsC])
        refine Draws.take 3 HS.out rfl (by kernel_rfl) (fun _ _ _ h => h) (yield_hold (fun _ h => range_below HR.out h.bel HC.out) _ rfl rfl rfl) ?_
        (try simp only [Act.put, lsA, lsB, lsC])
        refine Draws.does 4 rfl (by kernel_rfl) rfl (fun K hK => ?_)
        go_simp
        go_at_call 110
        refine (rrt_any _ _ HRH.out _).mono ?_
        rintro e u ⟨rfl, hb⟩
        (try dsimp only)
        refine hK.out _ _ (fun _ => HS.out.call hb) ?_
        clear hK K
        have hs : (fun u => KeepR w [] u) u := HS.out.call hb
        clear HS
        have HS := Lib.hid hs; clear hs
        (try simp only [Act.put, lsA, lsB, lsC])
        clear hb
        refine Draws.take 5 (v := ?v31) HS.out rfl (by kernel_rfl) (fun _ _ _ h => h) (Or.inl ⟨rfl, ?h31⟩) ?r31
        case h31 => intro w' hw'; go_simp; (try with_reducible rfl)
        (try simp only [Act.put, lsA, lsB, lsC])
        refine Draws.take 6 (v := ?v32) HS.out rfl (by kernel_rfl) (fun _ _ _ h => h) (Or.inl ⟨rfl, ?h32⟩) ?r32
        case h32 => intro w' hw'; go_simp; (try with_reducible rfl)
        (try simp only [Act.put, lsA, lsB, lsC])
        refine Draws.take 7 HS.out rfl (by kernel_rfl) (fun _ _ _ h => h) (Or.inr ⟨rfl, rfl⟩) ?_
        (try simp only [Act.put, lsA, lsB, lsC])
        refine Draws.take 8 HS.out rfl (by kernel_rfl) (fun _ _ _ h => h) (Or.inr ⟨rfl, rfl⟩) ?_
        (try simp only [Act.put, lsA, lsB, lsC])
        refine Draws.take 9 HS.out rfl (by kernel_rfl) (fun _ _ _ h => h) (Or.inr ⟨rfl, rfl⟩) ?_
        (try simp only [Act.put, lsA, lsB, lsC])
        refine Draws.take 10 HS.out rfl (by kernel_rfl) (fun _ _ _ h => h) (Or.inr ⟨rfl, rfl⟩) ?_
        (try simp only [Act.put, lsA, lsB, lsC])
        refine Draws.take 11 HS.out rfl (by kernel_rfl) (fun _ _ _ h => h) (Or.inr ⟨rfl, rfl⟩) ?_
        (try simp only [Act.put, lsA, lsB, lsC])
        refine Draws.take 12 HS.out rfl (by kernel_rfl) (fun _ _ _ h => h) (Or.inr ⟨rfl, rfl⟩) ?_
        (try simp only [Act.put, lsA, lsB, lsC])
        refine Draws.take 13 HS.out rfl (by kernel_rfl) (fun _ _ _ h => h) (Or.inr ⟨rfl, rfl⟩) ?_
        (try simp only [Act.put, lsA, lsB, lsC])
        refine Draws.take 14 HS.out rfl (by kernel_rfl) (fun _ _ _ h => h) (Or.inr ⟨rfl, rfl⟩) ?_
        (try simp only [Act.put, lsA, lsB, lsC])
        refine Draws.take 15 HS.out rfl (by kernel_rfl) (fun _ _ _ h => h) (Or.inr ⟨rfl, rfl⟩) ?_
        (try simp only [Act.put, lsA, lsB, lsC])
        refine Draws.take 16 HS.out rfl (by kernel_rfl) (fun _ _ _ h => h) (Or.inr ⟨rfl, rfl⟩) ?_
        (try simp only [Act.put, lsA, lsB, lsC])
        refine Draws.take 17 HS.out rfl (by kernel_rfl) (fun _ _ _ h => h) (Or.inr ⟨rfl, rfl⟩) ?_
        (try simp only [Act.put, lsA, lsB, lsC])
        refine Draws.take 18 HS.out rfl (by kernel_rfl) (fun _ _ _ h => h) (Or.inr ⟨rfl, rfl⟩) ?_
        (try simp only [Act.put, lsA, lsB, lsC])
        refine Draws.take 19 HS.out rfl (by kernel_rfl) (fun _ _ _ h => h) (Or.inr ⟨rfl, rfl⟩) ?_
        (try simp only [Act.put, lsA, lsB, lsC])
        refine Draws.take 20 HS.out rfl (by kernel_rfl) (fun _ _ _ h => h) (Or.inr ⟨rfl, rfl⟩) ?_
        (try simp only [Act.put, lsA, lsB, lsC])
        refine Draws.take 21 HS.out rfl (by kernel_rfl) (fun _ _ _ h => h) (Or.inr ⟨rfl, rfl⟩) ?_
        (try simp only [Act.put, lsA, lsB, lsC])
        refine Draws.take 22 (v := ?v33) HS.out rfl (by kernel_rfl) (fun _ _ _ h => h) (Or.inl ⟨rfl, ?h33⟩) ?r33
        case h33 => intro w' hw'; go_simp; (try with_reducible rfl)
        (try simp only [Act.put, lsA, lsB, lsC])
        refine Draws.done (by kernel_rfl) ?_
        go_wp2
        go_ret
        exact ⟨by rw [HF.out]; rfl, HS.out.bel⟩
      | true =>
        have HRH := Lib.hid hrh; clear hrh
        by_cases hm0 : m = 0
        · have HZ := Lib.hid (show decide (0 < (m : Int)) = false by simp; omega)
          have HM := Lib.hid hm0; clear hm0
          go_wp2
          refine Draws.start (S := fun u => KeepR w [] u) (n := 23) 23 rfl (by kernel_rfl) ?_
          have HS := Lib.hid (show (fun u => KeepR w [] u) _ from HK.out.drew)
          refine Draws.take 0 (v := ?v34) HS.out rfl (by kernel_rfl) (fun _ _ _ h => h) (Or.inl ⟨rfl, ?h34⟩) ?r34
          case h34 => intro w' hw'; go_simp; (try with_reducible rfl)
          (try simp only [Act.put, lsA, lsB, lsC])
          refine Draws.take 1 (v := ?v35) HS.out rfl (by kernel_rfl) (fun _ _ _ h => h) (Or.inl ⟨rfl, ?h35⟩) ?r35
          case h35 => intro w' hw'; go_simp; (try with_reducible rfl)
          (try simp only [Act.put, lsA, lsB, lsC])
          refine Draws.take 2 (v := ?v36) HS.out rfl (by kernel_rfl) (fun _ _ _ h => h) (Or.inl ⟨rfl, ?h36⟩) ?r36
          case h36 => intro w' hw'; go_simp; (try with_reducible rfl)
          (try simp only [Act.put, lsA, lsB, lsC])
          refine Draws.take 3 HS.out rfl (by kernel_rfl) (fun _ _ _ h => h) (yield_hold (fun _ h => range_below HR.out h.bel HC.out) _ rfl rfl rfl) ?_
          (try simp only [Act.put, lsA, lsB, lsC])
          refine Draws.does 4 rfl (by kernel_rfl) rfl (fun K hK => ?_)
          go_simp
          go_at_call 110
          refine (rrt_any _ _ HRH.out _).mono ?_
          rintro e u ⟨rfl, hb⟩
          (try dsimp only)
          refine hK.out _ _ (fun _ => HS.out.call hb) ?_
          clear hK K
          have hs : (fun u => KeepR w [] u) u := HS.out.call hb
          clear HS
          have HS := Lib.hid hs; clear hs
          (try simp only [Act.put, lsA, lsB, lsC])
          clear hb
          refine Draws.take 5 (v := ?v37) HS.out rfl (by kernel_rfl) (fun _ _ _ h => h) (Or.inl ⟨rfl, ?h37⟩) ?r37
          case h37 => intro w' hw'; go_simp; (try with_reducible rfl)
          (try simp only [Act.put, lsA, lsB, lsC])
          refine Draws.take 6 (v := ?v38) HS.out rfl (by kernel_rfl) (fun _ _ _ h => h) (Or.inl ⟨rfl, ?h38⟩) ?r38
          case h38 => intro w' hw'; go_simp; (try with_reducible rfl)
          (try simp only [Act.put, lsA, lsB, lsC])
          refine Draws.take 7 (v := ?v39) HS.out rfl (by kernel_rfl) (fun _ _ _ h => h) (Or.inl ⟨rfl, ?h39⟩) ?r39
          case h39 => intro w' hw'; go_simp; (try with_reducible rfl)
          (try simp only [Act.put, lsA, lsB, lsC])
          refine Draws.take 8 HS.out rfl (by kernel_rfl) (fun _ _ _ h => h) (yield_gtr HZ.out _ _ _ rfl rfl rfl rfl) ?_
          (try simp only [Act.put, lsA, lsB, lsC])
          refine Draws.take 9 (v := ?v40) HS.out rfl (by kernel_rfl) (fun _ _ _ h => h) (Or.inl ⟨rfl, ?h40⟩) ?r40
          case h40 => intro w' hw'; go_simp; (try with_reducible rfl)
          (try simp only [Act.put, lsA, lsB, lsC])
          refine Draws.take 10 HS.out rfl (by kernel_rfl) (fun _ _ _ h => h) (Or.inr ⟨rfl, rfl⟩) ?_
          (try simp only [Act.put, lsA, lsB, lsC])
          refine Draws.take 11 HS.out rfl (by kernel_rfl) (fun _ _ _ h => h) (Or.inr ⟨rfl, rfl⟩) ?_
          (try simp only [Act.put, lsA, lsB, lsC])
          refine Draws.take 12 HS.out rfl (by kernel_rfl) (fun _ _ _ h => h) (Or.inr ⟨rfl, rfl⟩) ?_
          (try simp only [Act.put, lsA, lsB, lsC])
          refine Draws.take 13 HS.out rfl (by kernel_rfl) (fun _ _ _ h => h) (Or.inr ⟨rfl, rfl⟩) ?_
          (try simp only [Act.put, lsA, lsB, lsC])
          refine Draws.take 14 HS.out rfl (by kernel_rfl) (fun _ _ _ h => h) (Or.inr ⟨rfl, rfl⟩) ?_
          (try simp only [Act.put, lsA, lsB, lsC])
          refine Draws.take 15 HS.out rfl (by kernel_rfl) (fun _ _ _ h => h) (Or.inr ⟨rfl, rfl⟩) ?_
          (try simp only [Act.put, lsA, lsB, lsC])
          refine Draws.take 16 HS.out rfl (by kernel_rfl) (fun _ _ _ h => h) (Or.inr ⟨rfl, rfl⟩) ?_
          (try simp only [Act.put, lsA, lsB, lsC])
          refine Draws.take 17 HS.out rfl (by kernel_rfl) (fun _ _ _ h => h) (Or.inr ⟨rfl, rfl⟩) ?_
          (try simp only [Act.put, lsA, lsB, lsC])
          refine Draws.take 18 HS.out rfl (by kernel_rfl) (fun _ _ _ h => h) (Or.inr ⟨rfl, rfl⟩) ?_
          (try simp only [Act.put, lsA, lsB, lsC])
          refine Draws.take 19 HS.out rfl (by kernel_rfl) (fun _ _ _ h => h) (Or.inr ⟨rfl, rfl⟩) ?_
          (try simp only [Act.put, lsA, lsB, lsC])
          refine Draws.take 20 HS.out rfl (by kernel_rfl) (fun _ _ _ h => h) (Or.inr ⟨rfl, rfl⟩) ?_
          (try simp only [Act.put, lsA, lsB, lsC])
          refine Draws.take 21 (v := ?v41) HS.out rfl (by kernel_rfl) (fun _ _ _ h => h) (Or.inl ⟨rfl, ?h41⟩) ?r41
          case h41 => intro w' hw'; go_simp; (try with_reducible rfl)
          (try simp only [Act.put, lsA, lsB, lsC])
          refine Draws.take 22 (v := ?v42) HS.out rfl (by kernel_rfl) (fun _ _ _ h => h) (Or.inl ⟨rfl, ?h42⟩) ?r42
          case h42 => intro w' hw'; go_simp; (try with_reducible rfl)
          (try simp only [Act.put, lsA, lsB, lsC])
          refine Draws.done (by kernel_rfl) ?_
          go_wp2
          go_roundw
          case rel => exact ⟨m + 1, by omega, by go_num, upTo_succ HU.out (by rw [HH.out]; exact HRH.out) (.inl HM.out), HS.out⟩
          case measure => simp [intOf]; omega
        · have HZ := Lib.hid (show decide (0 < (m : Int)) = true by simp; omega)
          have HQ := Lib.hid (wrap_sub (m := m) (by omega) (by omega))
          have hq2 : ((m - 1 : Nat) : Int) < (n : Int) := by omega
          have hq3 : m - 1 < n := by omega
          have hq4 : m - 1 + 1 = m := by omega
          generalize hqe : m - 1 = q at HQ hq2 hq3 hq4
          have HQE := Lib.hid hqe; have HQ4 := Lib.hid hq4
          clear hqe hq4
          have hq1 : (0 : Int) ≤ (q : Int) := by omega
          have hrp := HRA.out q hq3
          obtain ⟨p, hp⟩ : ∃ p, hs.getD q z5 = p := ⟨_, rfl⟩
          rw [hp] at hrp
          have HPE := Lib.hid hp
          have HP := Lib.hid hrp; have HCP := Lib.hid (range_lt hrp)
          clear hrp hp hq3
          cases hah : ahB p h with
          | false =>
            have HAH := Lib.hid hah
            have HF := Lib.hid (show rightsL hs = false from rights_fail (m := m) (by have := HL.out; omega) (okAt_ahead (by have := HQ4.out; omega) (by rw [HQE.out, HPE.out, HH.out]; exact hah)))
            clear hah
            go_wp2
            refine Draws.start (S := fun u => KeepR w [] u) (n := 23) 23 rfl (by kernel_rfl) ?_
            have HS := Lib.hid (show (fun u => KeepR w [] u) _ from HK.out.drew)
            refine Draws.take 0 (v := ?v43) HS.out rfl (by kernel_rfl) (fun _ _ _ h => h) (Or.inl ⟨rfl, ?h43⟩) ?r43
            case h43 => intro w' hw'; go_simp; (try with_reducible rfl)
            (try simp only [Act.put, lsA, lsB, lsC])
            refine Draws.take 1 (v := ?v44) HS.out rfl (by kernel_rfl) (fun _ _ _ h => h) (Or.inl ⟨rfl, ?h44⟩) ?r44
            case h44 => intro w' hw'; go_simp; (try with_reducible rfl)
            (try simp only [Act.put, lsA, lsB, lsC])
            refine Draws.take 2 (v := ?v45) HS.out rfl (by kernel_rfl) (fun _ _ _ h => h) (Or.inl ⟨rfl, ?h45⟩) ?r45
            case h45 => intro w' hw'; go_simp; (try with_reducible rfl)
            (try simp only [Act.put, lsA, lsB, lsC])
            refine Draws.take 3 HS.out rfl (by kernel_rfl) (fun _ _ _ h => h) (yield_hold (fun _ h => range_below HR.out h.bel HC.out) _ rfl rfl rfl) ?_
            (try simp only [Act.put, lsA, lsB, lsC])
            refine Draws.does 4 rfl (by kernel_rfl) rfl (fun K hK => ?_)
            go_simp
            go_at_call 110
            refine (rrt_any _ _ HRH.out _).mono ?_
            rintro e u ⟨rfl, hb⟩
            (try dsimp only)
            refine hK.out _ _ (fun _ => HS.out.call hb) ?_
            clear hK K
            have hs : (fun u => KeepR w [] u) u := HS.out.call hb
            clear HS
            have HS := Lib.hid hs; clear hs
            (try simp only [Act.put, lsA, lsB, lsC])
            clear hb
            refine Draws.take 5 (v := ?v46) HS.out rfl (by kernel_rfl) (fun _ _ _ h => h) (Or.inl ⟨rfl, ?h46⟩) ?r46
            case h46 => intro w' hw'; go_simp; (try with_reducible rfl)
            (try simp only [Act.put, lsA, lsB, lsC])
            refine Draws.take 6 (v := ?v47) HS.out rfl (by kernel_rfl) (fun _ _ _ h => h) (Or.inl ⟨rfl, ?h47⟩) ?r47
            case h47 => intro w' hw'; go_simp; (try with_reducible rfl)
            (try simp only [Act.put, lsA, lsB, lsC])
            refine Draws.take 7 (v := ?v48) HS.out rfl (by kernel_rfl) (fun _ _ _ h => h) (Or.inl ⟨rfl, ?h48⟩) ?r48
            case h48 => intro w' hw'; go_simp; (try with_reducible rfl)
            (try simp only [Act.put, lsA, lsB, lsC])
            refine Draws.take 8 HS.out rfl (by kernel_rfl) (fun _ _ _ h => h) (yield_gtr HZ.out _ _ _ rfl rfl rfl rfl) ?_
            (try simp only [Act.put, lsA, lsB, lsC])
            refine Draws.take 9 (v := ?v49) HS.out rfl (by kernel_rfl) (fun _ _ _ h => h) (Or.inl ⟨rfl, ?h49⟩) ?r49
            case h49 => intro w' hw'; go_simp; (try with_reducible rfl)
            (try simp only [Act.put, lsA, lsB, lsC])
            refine Draws.take 10 (v := ?v50) HS.out rfl (by kernel_rfl) (fun _ _ _ h => h) (Or.inl ⟨rfl, ?h50⟩) ?r50
            case h50 => intro w' hw'; go_simp; (try with_reducible rfl)
            (try simp only [Act.put, lsA, lsB, lsC])
            refine Draws.take 11 (v := ?v51) HS.out rfl (by kernel_rfl) (fun _ _ _ h => h) (Or.inl ⟨rfl, ?h51⟩) ?r51
            case h51 => intro w' hw'; go_simp; (try with_reducible rfl)
            (try simp only [Act.put, lsA, lsB, lsC])
            refine Draws.take 12 HS.out rfl (by kernel_rfl) (fun _ _ _ h => h) (yield_sub HQ.out _ _ _ rfl rfl rfl rfl) ?_
            (try simp only [Act.put, lsA, lsB, lsC])
            refine Draws.take 13 (v := ?v52) HS.out rfl (by kernel_rfl) (fun _ _ _ h => h) (Or.inl ⟨rfl, ?h52⟩) ?r52
            case h52 => intro w' hw'; go_simp; (try with_reducible rfl)
            (try simp only [Act.put, lsA, lsB, lsC])
            refine Draws.take 14 HS.out rfl (by kernel_rfl) (fun _ _ _ h => h) (yield_hold (fun _ h => range_below HP.out h.bel HCP.out) _ rfl rfl rfl) ?_
            (try simp only [Act.put, lsA, lsB, lsC])
            refine Draws.take 15 (v := ?v53) HS.out rfl (by kernel_rfl) (fun _ _ _ h => h) (Or.inl ⟨rfl, ?h53⟩) ?r53
            case h53 => intro w' hw'; go_simp; (try with_reducible rfl)
            (try simp only [Act.put, lsA, lsB, lsC])
            refine Draws.take 16 (v := ?v54) HS.out rfl (by kernel_rfl) (fun _ _ _ h => h) (Or.inl ⟨rfl, ?h54⟩) ?r54
            case h54 => intro w' hw'; go_simp; (try with_reducible rfl)
            (try simp only [Act.put, lsA, lsB, lsC])
            refine Draws.take 17 (v := ?v55) HS.out rfl (by kernel_rfl) (fun _ _ _ h => h) (Or.inl ⟨rfl, ?h55⟩) ?r55
            case h55 => intro w' hw'; go_simp; (try with_reducible rfl)
            (try simp only [Act.put, lsA, lsB, lsC])
            refine Draws.take 18 HS.out rfl (by kernel_rfl) (fun _ _ _ h => h) (yield_hold (fun _ h => range_below HR.out h.bel HC.out) _ rfl rfl rfl) ?_
            (try simp only [Act.put, lsA, lsB, lsC])
            refine Draws.does 19 rfl (by kernel_rfl) rfl (fun K hK => ?_)
            go_simp
            go_at_call 111
            refine (aha_any _ _ _ HAH.out _).mono ?_
            rintro e u ⟨rfl, hb⟩
            (try dsimp only)
            refine hK.out _ _ (fun _ => HS.out.call hb) ?_
            clear hK K
            have hs : (fun u => KeepR w [] u) u := HS.out.call hb
            clear HS
            have HS := Lib.hid hs; clear hs
            (try simp only [Act.put, lsA, lsB, lsC])
            clear hb
            refine Draws.take 20 (v := ?v56) HS.out rfl (by kernel_rfl) (fun _ _ _ h => h) (Or.inl ⟨rfl, ?h56⟩) ?r56
            case h56 => intro w' hw'; go_simp; (try with_reducible rfl)
            (try simp only [Act.put, lsA, lsB, lsC])
            refine Draws.take 21 (v := ?v57) HS.out rfl (by kernel_rfl) (fun _ _ _ h => h) (Or.inl ⟨rfl, ?h57⟩) ?r57
            case h57 => intro w' hw'; go_simp; (try with_reducible rfl)
            (try simp only [Act.put, lsA, lsB, lsC])
            refine Draws.take 22 (v := ?v58) HS.out rfl (by kernel_rfl) (fun _ _ _ h => h) (Or.inl ⟨rfl, ?h58⟩) ?r58
            case h58 => intro w' hw'; go_simp; (try with_reducible rfl)
            (try simp only [Act.put, lsA, lsB, lsC])
            refine Draws.done (by kernel_rfl) ?_
            go_wp2
            go_ret
            exact ⟨by rw [HF.out]; rfl, HS.out.bel⟩
          | true =>
            have HAH := Lib.hid hah
            clear hah
            go_wp2
            refine Draws.start (S := fun u => KeepR w [] u) (n := 23) 23 rfl (by kernel_rfl) ?_
            have HS := Lib.hid (show (fun u => KeepR w [] u) _ from HK.out.drew)
            refine Draws.take 0 (v := ?v59) HS.out rfl (by kernel_rfl) (fun _ _ _ h => h) (Or.inl ⟨rfl, ?h59⟩) ?r59
            case h59 => intro w' hw'; go_simp; (try with_reducible rfl)
            (try simp only [Act.put, lsA, lsB, lsC])
            refine Draws.take 1 (v := ?v60) HS.out rfl (by kernel_rfl) (fun _ _ _ h => h) (Or.inl ⟨rfl, ?h60⟩) ?r60
            case h60 => intro w' hw'; go_simp; (try with_reducible rfl)
            (try simp only [Act.put, lsA, lsB, lsC])
            refine Draws.take 2 (v := ?v61) HS.out rfl (by kernel_rfl) (fun _ _ _ h => h) (Or.inl ⟨rfl, ?h61⟩) ?r61
            case h61 => intro w' hw'; go_simp; (try with_reducible rfl)
            (try simp only [Act.put, lsA, lsB, lsC])
            refine Draws.take 3 HS.out rfl (by kernel_rfl) (fun _ _ _ h => h) (yield_hold (fun _ h => range_below HR.out h.bel HC.out) _ rfl rfl rfl) ?_
            (try simp only [Act.put, lsA, lsB, lsC])
            refine Draws.does 4 rfl (by kernel_rfl) rfl (fun K hK => ?_)
            go_simp
            go_at_call 110
            refine (rrt_any _ _ HRH.out _).mono ?_
            rintro e u ⟨rfl, hb⟩
            (try dsimp only)
            refine hK.out _ _ (fun _ => HS.out.call hb) ?_
            clear hK K
            have hs : (fun u => KeepR w [] u) u := HS.out.call hb
            clear HS
            have HS := Lib.hid hs; clear hs
            (try simp only [Act.put, lsA, lsB, lsC])
            clear hb
            refine Draws.take 5 (v := ?v62) HS.out rfl (by kernel_rfl) (fun _ _ _ h => h) (Or.inl ⟨rfl, ?h62⟩) ?r62
            case h62 => intro w' hw'; go_simp; (try with_reducible rfl)
            (try simp only [Act.put, lsA, lsB, lsC])
            refine Draws.take 6 (v := ?v63) HS.out rfl (by kernel_rfl) (fun _ _ _ h => h) (Or.inl ⟨rfl, ?h63⟩) ?r63
            case h63 => intro w' hw'; go_simp; (try with_reducible rfl)
            (try simp only [Act.put, lsA, lsB, lsC])
            refine Draws.take 7 (v := ?v64) HS.out rfl (by kernel_rfl) (fun _ _ _ h => h) (Or.inl ⟨rfl, ?h64⟩) ?r64
            case h64 => intro w' hw'; go_simp; (try with_reducible rfl)
            (try simp only [Act.put, lsA, lsB, lsC])
            refine Draws.take 8 HS.out rfl (by kernel_rfl) (fun _ _ _ h => h) (yield_gtr HZ.out _ _ _ rfl rfl rfl rfl) ?_
            (try simp only [Act.put, lsA, lsB, lsC])
            refine Draws.take 9 (v := ?v65) HS.out rfl (by kernel_rfl) (fun _ _ _ h => h) (Or.inl ⟨rfl, ?h65⟩) ?r65
            case h65 => intro w' hw'; go_simp; (try with_reducible rfl)
            (try simp only [Act.put, lsA, lsB, lsC])
            refine Draws.take 10 (v := ?v66) HS.out rfl (by kernel_rfl) (fun _ _ _ h => h) (Or.inl ⟨rfl, ?h66⟩) ?r66
            case h66 => intro w' hw'; go_simp; (try with_reducible rfl)
            (try simp only [Act.put, lsA, lsB, lsC])
            refine Draws.take 11 (v := ?v67) HS.out rfl (by kernel_rfl) (fun _ _ _ h => h) (Or.inl ⟨rfl, ?h67⟩) ?r67
            case h67 => intro w' hw'; go_simp; (try with_reducible rfl)
            (try simp only [Act.put, lsA, lsB, lsC])
            refine Draws.take 12 HS.out rfl (by kernel_rfl) (fun _ _ _ h => h) (yield_sub HQ.out _ _ _ rfl rfl rfl rfl) ?_
            (try simp only [Act.put, lsA, lsB, lsC])
            refine Draws.take 13 (v := ?v68) HS.out rfl (by kernel_rfl) (fun _ _ _ h => h) (Or.inl ⟨rfl, ?h68⟩) ?r68
            case h68 => intro w' hw'; go_simp; (try with_reducible rfl)
            (try simp only [Act.put, lsA, lsB, lsC])
            refine Draws.take 14 HS.out rfl (by kernel_rfl) (fun _ _ _ h => h) (yield_hold (fun _ h => range_below HP.out h.bel HCP.out) _ rfl rfl rfl) ?_
            (try simp only [Act.put, lsA, lsB, lsC])
            refine Draws.take 15 (v := ?v69) HS.out rfl (by kernel_rfl) (fun _ _ _ h => h) (Or.inl ⟨rfl, ?h69⟩) ?r69
            case h69 => intro w' hw'; go_simp; (try with_reducible rfl)
            (try simp only [Act.put, lsA, lsB, lsC])
            refine Draws.take 16 (v := ?v70) HS.out rfl (by kernel_rfl) (fun _ _ _ h => h) (Or.inl ⟨rfl, ?h70⟩) ?r70
            case h70 => intro w' hw'; go_simp; (try with_reducible rfl)
            (try simp only [Act.put, lsA, lsB, lsC])
            refine Draws.take 17 (v := ?v71) HS.out rfl (by kernel_rfl) (fun _ _ _ h => h) (Or.inl ⟨rfl, ?h71⟩) ?r71
            case h71 => intro w' hw'; go_simp; (try with_reducible rfl)
            (try simp only [Act.put, lsA, lsB, lsC])
            refine Draws.take 18 HS.out rfl (by kernel_rfl) (fun _ _ _ h => h) (yield_hold (fun _ h => range_below HR.out h.bel HC.out) _ rfl rfl rfl) ?_
            (try simp only [Act.put, lsA, lsB, lsC])
            refine Draws.does 19 rfl (by kernel_rfl) rfl (fun K hK => ?_)
            go_simp
            go_at_call 111
            refine (aha_any _ _ _ HAH.out _).mono ?_
            rintro e u ⟨rfl, hb⟩
            (try dsimp only)
            refine hK.out _ _ (fun _ => HS.out.call hb) ?_
            clear hK K
            have hs : (fun u => KeepR w [] u) u := HS.out.call hb
            clear HS
            have HS := Lib.hid hs; clear hs
            (try simp only [Act.put, lsA, lsB, lsC])
            clear hb
            refine Draws.take 20 (v := ?v72) HS.out rfl (by kernel_rfl) (fun _ _ _ h => h) (Or.inl ⟨rfl, ?h72⟩) ?r72
            case h72 => intro w' hw'; go_simp; (try with_reducible rfl)
            (try simp only [Act.put, lsA, lsB, lsC])
            refine Draws.take 21 (v := ?v73) HS.out rfl (by kernel_rfl) (fun _ _ _ h => h) (Or.inl ⟨rfl, ?h73⟩) ?r73
            case h73 => intro w' hw'; go_simp; (try with_reducible rfl)
            (try simp only [Act.put, lsA, lsB, lsC])
            refine Draws.take 22 (v := ?v74) HS.out rfl (by kernel_rfl) (fun _ _ _ h => h) (Or.inl ⟨rfl, ?h74⟩) ?r74
            case h74 => intro w' hw'; go_simp; (try with_reducible rfl)
            (try simp only [Act.put, lsA, lsB, lsC])
            refine Draws.done (by kernel_rfl) ?_
            go_wp2
            go_roundw
            case rel => exact ⟨m + 1, by omega, by go_num, upTo_succ HU.out (by rw [HH.out]; exact HRH.out) (.inr (by rw [HQE.out, HPE.out, HH.out]; exact HAH.out)), HS.out⟩
            case measure => simp [intOf]; omega
    · obtain rfl : m = n := by omega
      have HF := Lib.hid (show decide (m ≤ 16) = rightsL hs by rw [← rights_doc (l := hs) (by rw [HL.out]; exact HU.out), HL.out])
      by_cases h16 : m ≤ 16
      · have hi : (m : Int) ≤ 16 := by omega
        go_wp2
        go_ret
        exact ⟨by rw [← HF.out]; simp [h16], HK.out.bel⟩
      · have hi : ¬ (m : Int) ≤ 16 := by omega
        go_wp2
        go_ret
        exact ⟨by rw [← HF.out]; simp [h16], HK.out.bel⟩

theorem ris_eq (n : Int) (r : Bool) (hr : isB n = r) (w : World) : Calls Tryz.prog 40 #[.int .i64 n] w fun e w' => e = .returned (.bool r) ∧ w = w' := by subst hr; exact ris_any n w
set_option maxHeartbeats 4000000 in
theorem rl5_any (a : Lk) (w : World) (r : Bool) (hr : rightL a = r) :
    Calls Tryz.prog 71 #[.agg (vals a.l).toArray] w fun e w' => e = .returned (.bool r) ∧ Below w.heap.size w w' := by
  have HK := Lib.hid (KeepR.start w)
  subst hr
  cases h0 : decide (0 ≤ a.s) with
  | false =>
    rw [show rightL a = false by rw [← Bool.not_eq_true, rightL_iff]; simp [] at h0; omega]
    go_enter Tryz.func71, Tryz.ntmps71
    go_wp2_with (first
      | (with_reducible refine box_new (R := a.l) HK.out rfl _ rfl rfl ?_; intro b u hk hb; clear hb; clear HK; have HK := Lib.hid hk; clear hk)
      | (with_reducible refine load_val_want HK.out 0 _ rfl rfl rfl rfl (Lk.g0 _) (Lk.p0 _) ?_)
      | (with_reducible refine load_val_want HK.out 0 _ rfl rfl rfl rfl (Lk.g1 _) (Lk.p1 _) ?_)
      | (with_reducible refine load_val_want HK.out 0 _ rfl rfl rfl rfl (Lk.g2 _) (Lk.p2 _) ?_)
      | (with_reducible refine load_val_want HK.out 0 _ rfl rfl rfl rfl (Lk.g3 _) (Lk.p3 _) ?_))
    go_ret
    exact ⟨rfl, HK.out.bel⟩
  | true =>
    cases h1 : isB a.s with
    | false =>
      rw [show rightL a = false by rw [← Bool.not_eq_true, rightL_iff]; simp [isB] at h1; omega]
      go_enter Tryz.func71, Tryz.ntmps71
      go_wp2_with (first
        | (with_reducible refine box_new (R := a.l) HK.out rfl _ rfl rfl ?_; intro b u hk hb; clear hb; clear HK; have HK := Lib.hid hk; clear hk)
        | (with_reducible refine load_val_want HK.out 0 _ rfl rfl rfl rfl (Lk.g0 _) (Lk.p0 _) ?_)
        | (with_reducible refine load_val_want HK.out 0 _ rfl rfl rfl rfl (Lk.g1 _) (Lk.p1 _) ?_)
        | (with_reducible refine load_val_want HK.out 0 _ rfl rfl rfl rfl (Lk.g2 _) (Lk.p2 _) ?_)
        | (with_reducible refine load_val_want HK.out 0 _ rfl rfl rfl rfl (Lk.g3 _) (Lk.p3 _) ?_)
        | (go_at_call 40; (with_reducible refine (ris_eq a.s _ h1 _).mono ?_); rintro e u ⟨rfl, rfl⟩))
      go_ret
      exact ⟨rfl, HK.out.bel⟩
    | true =>
      cases h2 : decide (0 ≤ a.v) with
      | false =>
        rw [show rightL a = false by rw [← Bool.not_eq_true, rightL_iff]; simp [] at h2; omega]
        go_enter Tryz.func71, Tryz.ntmps71
        go_wp2_with (first
          | (with_reducible refine box_new (R := a.l) HK.out rfl _ rfl rfl ?_; intro b u hk hb; clear hb; clear HK; have HK := Lib.hid hk; clear hk)
          | (with_reducible refine load_val_want HK.out 0 _ rfl rfl rfl rfl (Lk.g0 _) (Lk.p0 _) ?_)
          | (with_reducible refine load_val_want HK.out 0 _ rfl rfl rfl rfl (Lk.g1 _) (Lk.p1 _) ?_)
          | (with_reducible refine load_val_want HK.out 0 _ rfl rfl rfl rfl (Lk.g2 _) (Lk.p2 _) ?_)
          | (with_reducible refine load_val_want HK.out 0 _ rfl rfl rfl rfl (Lk.g3 _) (Lk.p3 _) ?_)
          | (go_at_call 40; (with_reducible refine (ris_eq a.s _ h1 _).mono ?_); rintro e u ⟨rfl, rfl⟩))
        go_ret
        exact ⟨rfl, HK.out.bel⟩
      | true =>
        cases h3 : isB a.v with
        | false =>
          rw [show rightL a = false by rw [← Bool.not_eq_true, rightL_iff]; simp [isB] at h3; omega]
          go_enter Tryz.func71, Tryz.ntmps71
          go_wp2_with (first
            | (with_reducible refine box_new (R := a.l) HK.out rfl _ rfl rfl ?_; intro b u hk hb; clear hb; clear HK; have HK := Lib.hid hk; clear hk)
            | (with_reducible refine load_val_want HK.out 0 _ rfl rfl rfl rfl (Lk.g0 _) (Lk.p0 _) ?_)
            | (with_reducible refine load_val_want HK.out 0 _ rfl rfl rfl rfl (Lk.g1 _) (Lk.p1 _) ?_)
            | (with_reducible refine load_val_want HK.out 0 _ rfl rfl rfl rfl (Lk.g2 _) (Lk.p2 _) ?_)
            | (with_reducible refine load_val_want HK.out 0 _ rfl rfl rfl rfl (Lk.g3 _) (Lk.p3 _) ?_)
            | (go_at_call 40; (with_reducible refine (ris_eq a.s _ h1 _).mono ?_); rintro e u ⟨rfl, rfl⟩)
            | (go_at_call 40; (with_reducible refine (ris_eq a.v _ h3 _).mono ?_); rintro e u ⟨rfl, rfl⟩))
          go_ret
          exact ⟨rfl, HK.out.bel⟩
        | true =>
          cases h4 : decide (0 ≤ a.h) with
          | false =>
            rw [show rightL a = false by rw [← Bool.not_eq_true, rightL_iff]; simp [] at h4; omega]
            go_enter Tryz.func71, Tryz.ntmps71
            go_wp2_with (first
              | (with_reducible refine box_new (R := a.l) HK.out rfl _ rfl rfl ?_; intro b u hk hb; clear hb; clear HK; have HK := Lib.hid hk; clear hk)
              | (with_reducible refine load_val_want HK.out 0 _ rfl rfl rfl rfl (Lk.g0 _) (Lk.p0 _) ?_)
              | (with_reducible refine load_val_want HK.out 0 _ rfl rfl rfl rfl (Lk.g1 _) (Lk.p1 _) ?_)
              | (with_reducible refine load_val_want HK.out 0 _ rfl rfl rfl rfl (Lk.g2 _) (Lk.p2 _) ?_)
              | (with_reducible refine load_val_want HK.out 0 _ rfl rfl rfl rfl (Lk.g3 _) (Lk.p3 _) ?_)
              | (go_at_call 40; (with_reducible refine (ris_eq a.s _ h1 _).mono ?_); rintro e u ⟨rfl, rfl⟩)
              | (go_at_call 40; (with_reducible refine (ris_eq a.v _ h3 _).mono ?_); rintro e u ⟨rfl, rfl⟩))
            go_ret
            exact ⟨rfl, HK.out.bel⟩
          | true =>
            cases h5 : decide (a.h ≤ 15) with
            | false =>
              rw [show rightL a = false by rw [← Bool.not_eq_true, rightL_iff]; simp [] at h5; omega]
              go_enter Tryz.func71, Tryz.ntmps71
              go_wp2_with (first
                | (with_reducible refine box_new (R := a.l) HK.out rfl _ rfl rfl ?_; intro b u hk hb; clear hb; clear HK; have HK := Lib.hid hk; clear hk)
                | (with_reducible refine load_val_want HK.out 0 _ rfl rfl rfl rfl (Lk.g0 _) (Lk.p0 _) ?_)
                | (with_reducible refine load_val_want HK.out 0 _ rfl rfl rfl rfl (Lk.g1 _) (Lk.p1 _) ?_)
                | (with_reducible refine load_val_want HK.out 0 _ rfl rfl rfl rfl (Lk.g2 _) (Lk.p2 _) ?_)
                | (with_reducible refine load_val_want HK.out 0 _ rfl rfl rfl rfl (Lk.g3 _) (Lk.p3 _) ?_)
                | (go_at_call 40; (with_reducible refine (ris_eq a.s _ h1 _).mono ?_); rintro e u ⟨rfl, rfl⟩)
                | (go_at_call 40; (with_reducible refine (ris_eq a.v _ h3 _).mono ?_); rintro e u ⟨rfl, rfl⟩))
              go_ret
              exact ⟨rfl, HK.out.bel⟩
            | true =>
              rw [show rightL a = isB a.x by rw [Bool.eq_iff_iff, rightL_iff, isB_iff]; simp [isB] at h0 h1 h2 h3 h4 h5; omega]
              go_enter Tryz.func71, Tryz.ntmps71
              go_wp2_with (first
                | (with_reducible refine box_new (R := a.l) HK.out rfl _ rfl rfl ?_; intro b u hk hb; clear hb; clear HK; have HK := Lib.hid hk; clear hk)
                | (with_reducible refine load_val_want HK.out 0 _ rfl rfl rfl rfl (Lk.g0 _) (Lk.p0 _) ?_)
                | (with_reducible refine load_val_want HK.out 0 _ rfl rfl rfl rfl (Lk.g1 _) (Lk.p1 _) ?_)
                | (with_reducible refine load_val_want HK.out 0 _ rfl rfl rfl rfl (Lk.g2 _) (Lk.p2 _) ?_)
                | (with_reducible refine load_val_want HK.out 0 _ rfl rfl rfl rfl (Lk.g3 _) (Lk.p3 _) ?_)
                | (go_at_call 40; (with_reducible refine (ris_eq a.s _ h1 _).mono ?_); rintro e u ⟨rfl, rfl⟩)
                | (go_at_call 40; (with_reducible refine (ris_eq a.v _ h3 _).mono ?_); rintro e u ⟨rfl, rfl⟩)
                | (go_at_call 40; (with_reducible refine (ris_any _ _).mono ?_); rintro e u ⟨rfl, rfl⟩))
              go_ret
              exact ⟨rfl, HK.out.bel⟩
set_option maxHeartbeats 4000000 in
theorem rright_any7 (f : Fd) (hf : f.full) (hN : f.nm.size ≤ 1000) (hs : List Ho) (w : World) (hd : Row w f.A f.n hs) (r : Bool) (hr : rightF f hs = r) :
    Calls Tryz.prog 34 #[.agg f.cells.toArray] w fun e w' => e = .returned (.bool r) ∧ Below w.heap.size w w' := by
  have HK := Lib.hid (KeepF.start (w := w) (rows := [(f.A, f.n, hs)]) (by simpa using hd))
  have HF := Lib.hid hf; clear hf
  have HC := Lib.hid (c_infoF HF.out)
  subst hr
  have hnm := rfname_any f.nm hN
  cases h1 : nameB f.nm with
  | false =>
    rw [h1] at hnm
    rw [show rightF f hs = false by simp [rightF, h1]]
    go_enter Tryz.func34, Tryz.ntmps34
    go_wp2_with (first
      | (with_reducible refine box_f HK.out rfl _ rfl rfl ?_; intro b u hk; clear HK; have HK := Lib.hid hk; clear hk)
      | (with_reducible refine load_f1 HK.out 0 cbS _ rfl rfl rfl rfl (Fd.c0 f) ?_)
      | (go_at_call 39; (with_reducible refine (hnm _).mono ?_); rintro e u ⟨rfl, hb⟩; have hk := HK.out.call hb; clear hb; clear HK; have HK := Lib.hid hk; clear hk))
    go_ret
    exact ⟨rfl, HK.out.bel⟩
  | true =>
    rw [h1] at hnm
    by_cases h2 : 0 ≤ f.e
    rotate_left
    · rw [show rightF f hs = false by simp [rightF, epB, h2]]
      have h2' : decide (f.e < 0) = true := by rw [decide_eq_true_eq]; omega
      go_enter Tryz.func34, Tryz.ntmps34
      go_wp2_with (first
        | (with_reducible refine box_f HK.out rfl _ rfl rfl ?_; intro b u hk; clear HK; have HK := Lib.hid hk; clear hk)
        | (with_reducible refine load_f1 HK.out 0 cbS _ rfl rfl rfl rfl (Fd.c0 f) ?_)
        | (with_reducible refine load_f1 HK.out 0 cbI _ rfl rfl rfl rfl (Fd.c2 f) ?_)
        | (go_at_call 39; (with_reducible refine (hnm _).mono ?_); rintro e u ⟨rfl, hb⟩; have hk := HK.out.call hb; clear hb; clear HK; have HK := Lib.hid hk; clear hk))
      go_ret
      exact ⟨rfl, HK.out.bel⟩
    · have h2' : decide (f.e < 0) = false := by rw [decide_eq_false_iff_not]; omega
      cases h3 : isB f.e with
      | false =>
        rw [show rightF f hs = false by simp [rightF, epB, h3]]
        go_enter Tryz.func34, Tryz.ntmps34
        go_wp2_with (first
          | (with_reducible refine box_f HK.out rfl _ rfl rfl ?_; intro b u hk; clear HK; have HK := Lib.hid hk; clear hk)
          | (with_reducible refine load_f1 HK.out 0 cbS _ rfl rfl rfl rfl (Fd.c0 f) ?_)
          | (with_reducible refine load_f1 HK.out 0 cbI _ rfl rfl rfl rfl (Fd.c2 f) ?_)
          | (go_at_call 39; (with_reducible refine (hnm _).mono ?_); rintro e u ⟨rfl, hb⟩; have hk := HK.out.call hb; clear hb; clear HK; have HK := Lib.hid hk; clear hk)
          | (go_at_call 40; (with_reducible refine (ris_eq _ _ h3 _).mono ?_); rintro e u ⟨rfl, rfl⟩))
        go_ret
        exact ⟨rfl, HK.out.bel⟩
      | true =>
        have hcH := Fd.cH HF.out
        by_cases k1 : f.k = 1
        · have hk1 : f.cells[1]? = some (.int .i64 1) := by rw [Fd.c1, k1]
          have hl0 : rlB f = false := by simp [rlB, k1]
          have hcl := rcright_any f.C HF.out
          cases h4 : rightC f.C with
          | false =>
            rw [h4] at hcl
            rw [show rightF f hs = false by simp [rightF, hl0, rcB, h4]]
            go_enter Tryz.func34, Tryz.ntmps34
            go_wp2_with (first
              | (with_reducible refine box_f HK.out rfl _ rfl rfl ?_; intro b u hk; clear HK; have HK := Lib.hid hk; clear hk)
              | (with_reducible refine load_f1 HK.out 0 cbS _ rfl rfl rfl rfl (Fd.c0 f) ?_)
              | (with_reducible refine load_f1 HK.out 0 cbI _ rfl rfl rfl rfl (Fd.c2 f) ?_)
              | (go_at_call 39; (with_reducible refine (hnm _).mono ?_); rintro e u ⟨rfl, hb⟩; have hk := HK.out.call hb; clear hb; clear HK; have HK := Lib.hid hk; clear hk)
              | (with_reducible refine load_f1 HK.out 0 cbI _ rfl rfl rfl rfl hk1 ?_)
              | (with_reducible refine load_fr HK.out 0 Tryz.underlying38 rfl HC.out _ rfl rfl rfl rfl (Fd.cC f) ?_)
              | (go_at_call 40; (with_reducible refine (ris_eq _ _ h3 _).mono ?_); rintro e u ⟨rfl, rfl⟩)
              | (go_at_call 69; (with_reducible refine (hcl _).mono ?_); rintro e u ⟨rfl, hb⟩; have hk := HK.out.call hb; clear hb; clear HK; have HK := Lib.hid hk; clear hk))
            go_ret
            exact ⟨rfl, HK.out.bel⟩
          | true =>
            rw [h4] at hcl
            have hrt := rrights_any f.A f.n f.c hs
            cases h5 : rightsL hs with
            | false =>
              rw [h5] at hrt
              rw [show rightF f hs = false by simp [rightF, hl0, rcB, h5]]
              go_enter Tryz.func34, Tryz.ntmps34
              go_wp2_with (first
                | (with_reducible refine box_f HK.out rfl _ rfl rfl ?_; intro b u hk; clear HK; have HK := Lib.hid hk; clear hk)
                | (with_reducible refine load_f1 HK.out 0 cbS _ rfl rfl rfl rfl (Fd.c0 f) ?_)
                | (with_reducible refine load_f1 HK.out 0 cbI _ rfl rfl rfl rfl (Fd.c2 f) ?_)
                | (go_at_call 39; (with_reducible refine (hnm _).mono ?_); rintro e u ⟨rfl, hb⟩; have hk := HK.out.call hb; clear hb; clear HK; have HK := Lib.hid hk; clear hk)
                | (with_reducible refine load_f1 HK.out 0 cbI _ rfl rfl rfl rfl hk1 ?_)
                | (with_reducible refine load_fr HK.out 0 Tryz.underlying38 rfl HC.out _ rfl rfl rfl rfl (Fd.cC f) ?_)
                | (with_reducible refine load_f1 HK.out 0 cbH _ rfl rfl rfl rfl (Fd.cH HF.out) ?_)
                | (go_at_call 40; (with_reducible refine (ris_eq _ _ h3 _).mono ?_); rintro e u ⟨rfl, rfl⟩)
                | (go_at_call 69; (with_reducible refine (hcl _).mono ?_); rintro e u ⟨rfl, hb⟩; have hk := HK.out.call hb; clear hb; clear HK; have HK := Lib.hid hk; clear hk)
                | (go_at_call 70; (with_reducible refine (hrt _ (HK.out.rowAt 0 rfl)).mono ?_); rintro e u ⟨rfl, hb⟩; have hk := HK.out.call hb; clear hb; clear HK; have HK := Lib.hid hk; clear hk))
              go_ret
              exact ⟨rfl, HK.out.bel⟩
            | true =>
              rw [h5] at hrt
              rw [show rightF f hs = (f.L.l == zL.l) by simp [rightF, epB, h1, h2, h3, hl0, rcB, k1, h4, h5]]
              have HQ := Lib.hid (eql_lk f.L zL)
              generalize (f.L.l == zL.l) = r at HQ ⊢
              go_enter Tryz.func34, Tryz.ntmps34
              go_wp2_with (first
                | (with_reducible refine box_f HK.out rfl _ rfl rfl ?_; intro b u hk; clear HK; have HK := Lib.hid hk; clear hk)
                | (with_reducible refine load_f1 HK.out 0 cbS _ rfl rfl rfl rfl (Fd.c0 f) ?_)
                | (with_reducible refine load_f1 HK.out 0 cbI _ rfl rfl rfl rfl (Fd.c2 f) ?_)
                | (go_at_call 39; (with_reducible refine (hnm _).mono ?_); rintro e u ⟨rfl, hb⟩; have hk := HK.out.call hb; clear hb; clear HK; have HK := Lib.hid hk; clear hk)
                | (with_reducible refine load_f1 HK.out 0 cbI _ rfl rfl rfl rfl hk1 ?_)
                | (with_reducible refine load_fr HK.out 0 Tryz.underlying38 rfl HC.out _ rfl rfl rfl rfl (Fd.cC f) ?_)
                | (with_reducible refine load_f1 HK.out 0 cbH _ rfl rfl rfl rfl (Fd.cH HF.out) ?_)
                | (with_reducible refine load_fr HK.out 0 Tryz.underlying40 rfl (l_infoF f.L) _ rfl rfl rfl rfl (Fd.cL HF.out) ?_)
                | (with_reducible refine build_fw l_buildF rfl rfl ?_)
                | (with_reducible refine eql_fw lk_guard HQ.out _ _ _ rfl rfl rfl rfl ?_)
                | (go_at_call 40; (with_reducible refine (ris_eq _ _ h3 _).mono ?_); rintro e u ⟨rfl, rfl⟩)
                | (go_at_call 69; (with_reducible refine (hcl _).mono ?_); rintro e u ⟨rfl, hb⟩; have hk := HK.out.call hb; clear hb; clear HK; have HK := Lib.hid hk; clear hk)
                | (go_at_call 70; (with_reducible refine (hrt _ (HK.out.rowAt 0 rfl)).mono ?_); rintro e u ⟨rfl, hb⟩; have hk := HK.out.call hb; clear hb; clear HK; have HK := Lib.hid hk; clear hk))
              go_ret
              exact ⟨rfl, HK.out.bel⟩
        · have hc0 : rcB f hs = false := by simp [rcB, k1]
          by_cases k2 : f.k = 2
          · have hk1 : f.cells[1]? = some (.int .i64 2) := by rw [Fd.c1, k2]
            cases h4 : rightL f.L with
            | false =>
              have hlr := fun w => rl5_any f.L w _ h4
              rw [show rightF f hs = false by simp [rightF, hc0, rlB, h4]]
              go_enter Tryz.func34, Tryz.ntmps34
              go_wp2_with (first
                | (with_reducible refine box_f HK.out rfl _ rfl rfl ?_; intro b u hk; clear HK; have HK := Lib.hid hk; clear hk)
                | (with_reducible refine load_f1 HK.out 0 cbS _ rfl rfl rfl rfl (Fd.c0 f) ?_)
                | (with_reducible refine load_f1 HK.out 0 cbI _ rfl rfl rfl rfl (Fd.c2 f) ?_)
                | (go_at_call 39; (with_reducible refine (hnm _).mono ?_); rintro e u ⟨rfl, hb⟩; have hk := HK.out.call hb; clear hb; clear HK; have HK := Lib.hid hk; clear hk)
                | (with_reducible refine load_f1 HK.out 0 cbI _ rfl rfl rfl rfl hk1 ?_)
                | (with_reducible refine load_fr HK.out 0 Tryz.underlying40 rfl (l_infoF f.L) _ rfl rfl rfl rfl (Fd.cL HF.out) ?_)
                | (go_at_call 40; (with_reducible refine (ris_eq _ _ h3 _).mono ?_); rintro e u ⟨rfl, rfl⟩)
                | (go_at_call 71; (with_reducible refine (hlr _).mono ?_); rintro e u ⟨rfl, hb⟩; have hk := HK.out.call hb; clear hb; clear HK; have HK := Lib.hid hk; clear hk))
              go_ret
              exact ⟨rfl, HK.out.bel⟩
            | true =>
              have hlr := fun w => rl5_any f.L w _ h4
              by_cases h5 : f.n = 0
              · rw [show rightF f hs = (f.C == zer 579) by simp [rightF, epB, h1, h2, h3, hc0, rlB, k2, h4, h5]]
                rw [h5] at hcH
                have HQ := Lib.hid (eql_c f.C (zer 579) HF.out (zer_length 579))
                generalize (f.C == zer 579) = r at HQ ⊢
                go_enter Tryz.func34, Tryz.ntmps34
                go_wp2_with (first
                  | (with_reducible refine box_f HK.out rfl _ rfl rfl ?_; intro b u hk; clear HK; have HK := Lib.hid hk; clear hk)
                  | (with_reducible refine load_f1 HK.out 0 cbS _ rfl rfl rfl rfl (Fd.c0 f) ?_)
                  | (with_reducible refine load_f1 HK.out 0 cbI _ rfl rfl rfl rfl (Fd.c2 f) ?_)
                  | (go_at_call 39; (with_reducible refine (hnm _).mono ?_); rintro e u ⟨rfl, hb⟩; have hk := HK.out.call hb; clear hb; clear HK; have HK := Lib.hid hk; clear hk)
                  | (with_reducible refine load_f1 HK.out 0 cbI _ rfl rfl rfl rfl hk1 ?_)
                  | (with_reducible refine load_fr HK.out 0 Tryz.underlying40 rfl (l_infoF f.L) _ rfl rfl rfl rfl (Fd.cL HF.out) ?_)
                  | (with_reducible refine load_f1 HK.out 0 cbH _ rfl rfl rfl rfl hcH ?_)
                  | (with_reducible refine load_fr HK.out 0 Tryz.underlying38 rfl HC.out _ rfl rfl rfl rfl (Fd.cC f) ?_)
                  | (with_reducible refine build_fw c_build rfl rfl ?_)
                  | (with_reducible refine eql_fw c_guardF HQ.out _ _ _ rfl rfl rfl rfl ?_)
                  | (go_at_call 40; (with_reducible refine (ris_eq _ _ h3 _).mono ?_); rintro e u ⟨rfl, rfl⟩)
                  | (go_at_call 71; (with_reducible refine (hlr _).mono ?_); rintro e u ⟨rfl, hb⟩; have hk := HK.out.call hb; clear hb; clear HK; have HK := Lib.hid hk; clear hk))
                go_ret
                exact ⟨rfl, HK.out.bel⟩
              · rw [show rightF f hs = false by simp [rightF, hc0, rlB, h5]]
                have h5' : ((f.n : Int) == 0) = false := by rw [beq_eq_false_iff_ne]; omega
                generalize f.n = n at h5 h5' hcH HK
                go_enter Tryz.func34, Tryz.ntmps34
                go_wp2_with (first
                  | (with_reducible refine box_f HK.out rfl _ rfl rfl ?_; intro b u hk; clear HK; have HK := Lib.hid hk; clear hk)
                  | (with_reducible refine load_f1 HK.out 0 cbS _ rfl rfl rfl rfl (Fd.c0 f) ?_)
                  | (with_reducible refine load_f1 HK.out 0 cbI _ rfl rfl rfl rfl (Fd.c2 f) ?_)
                  | (go_at_call 39; (with_reducible refine (hnm _).mono ?_); rintro e u ⟨rfl, hb⟩; have hk := HK.out.call hb; clear hb; clear HK; have HK := Lib.hid hk; clear hk)
                  | (with_reducible refine load_f1 HK.out 0 cbI _ rfl rfl rfl rfl hk1 ?_)
                  | (with_reducible refine load_fr HK.out 0 Tryz.underlying40 rfl (l_infoF f.L) _ rfl rfl rfl rfl (Fd.cL HF.out) ?_)
                  | (with_reducible refine load_f1 HK.out 0 cbH _ rfl rfl rfl rfl hcH ?_)
                  | (go_at_call 40; (with_reducible refine (ris_eq _ _ h3 _).mono ?_); rintro e u ⟨rfl, rfl⟩)
                  | (go_at_call 71; (with_reducible refine (hlr _).mono ?_); rintro e u ⟨rfl, hb⟩; have hk := HK.out.call hb; clear hb; clear HK; have HK := Lib.hid hk; clear hk))
                go_ret
                exact ⟨rfl, HK.out.bel⟩
          · have hk1 := Fd.c1 f
            rw [show rightF f hs = false by simp [rightF, hc0, rlB, k2]]
            generalize f.k = K at k1 k2 hk1
            go_enter Tryz.func34, Tryz.ntmps34
            go_wp2_with (first
              | (with_reducible refine box_f HK.out rfl _ rfl rfl ?_; intro b u hk; clear HK; have HK := Lib.hid hk; clear hk)
              | (with_reducible refine load_f1 HK.out 0 cbS _ rfl rfl rfl rfl (Fd.c0 f) ?_)
              | (with_reducible refine load_f1 HK.out 0 cbI _ rfl rfl rfl rfl (Fd.c2 f) ?_)
              | (go_at_call 39; (with_reducible refine (hnm _).mono ?_); rintro e u ⟨rfl, hb⟩; have hk := HK.out.call hb; clear hb; clear HK; have HK := Lib.hid hk; clear hk)
              | (with_reducible refine load_f1 HK.out 0 cbI _ rfl rfl rfl rfl hk1 ?_)
              | (go_at_call 40; (with_reducible refine (ris_eq _ _ h3 _).mono ?_); rintro e u ⟨rfl, rfl⟩))
            go_ret
            exact ⟨rfl, HK.out.bel⟩

theorem rright_q (p : Pf) (hp : p.full) (hN : p.nm.size ≤ 1000) (A : Option Addr) (c : Nat) (r : Bool) (hr : rightP p = r) (w : World) (hd : Row w A p.hs.length p.hs) :
    Calls Tryz.prog 34 #[.agg (p.fd A c).cells.toArray] w fun e w' => e = .returned (.bool r) ∧ Below w.heap.size w w' := rright_any7 (p.fd A c) hp hN p.hs w hd r hr
/-! ### Where a field is. -/
/-! ### By name. -/
/-! ### Whether fields may be. -/

end Go.Proofs.YtgblnlpfgdbnnaaGreat
