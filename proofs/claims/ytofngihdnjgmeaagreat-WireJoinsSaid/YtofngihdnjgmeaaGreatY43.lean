/- A contract of the document's join of holds. -/
import Derived.Test.YtofngihdnjgmeaaGreatY01
import Derived.Test.YtofngihdnjgmeaaGreatY03
import Derived.Test.YtofngihdnjgmeaaGreatY07
import Derived.Test.YtofngihdnjgmeaaGreatY09
import Derived.Test.YtofngihdnjgmeaaGreatY14
import Derived.Test.YtofngihdnjgmeaaGreatY39
import Derived.Maps.OwnSet
import Derived.Maps.Views
import Derived.DeepKeys4
import Derived.WalkKit
import Derived.ProofKit
import Derived.Lib.Hide
import Derived.Deep.RegionHeld3
import Derived.Below
import Derived.Deep.MidRow
import Derived.Deep.QuietTactic
import Derived.BigQuiet
import Derived.Laws.StructEq
import Derived.Laws.OwnMore
import Derived.Lib.SliceRun
import Derived.Maps.AppendAt
import Derived.OwnWalk
import Derived.OpenShut
import Derived.ChangeOld
import Derived.Deep.Slices
import Derived.ChangeSlices
import Derived.Laws.AppendOwn
import Derived.Shelf.SlSortCmp.WholeK
import Derived.Shelf.SlSortCmp.NoneTotal
namespace Go.Proofs.YtofngihdnjgmeaaGreat
set_option maxRecDepth 100000
open Go.ChangeShapes Go.WideShapes Go.ChangeAt Go.RowKit

theorem isort_id {l : List Ho} (h : l.Pairwise AH) : isort l = l := isort_eq (Apart.of_rises h) h fun _ => Iff.rfl
/-- What c has of no name is in the join of no name. -/
theorem jraw_no {a c : List Ho} {h : Ho} (ha : ∀ x ∈ a, ¬ SN x h) (hc : ∀ y ∈ c, ¬ SN y h) : ∀ z ∈ jraw a c, ¬ SN z h := by
  intro z hz hs
  rcases mem_jraw.1 hz with ⟨x, hx, rfl⟩ | ⟨h1, _⟩
  · obtain ⟨h2, h3⟩ := hs
    rw [(upd_name c x).1] at h2
    rw [(upd_name c x).2.1] at h3
    exact ha x hx ⟨h2, h3⟩
  · exact hc z h1 hs
theorem SN_not {y h : Ho} (hs : ¬ SN y h) : (y.r == h.r) = false ∨ ((y.r == h.r) = true ∧ (y.n == h.n) = false) := by
  cases h1 : (y.r == h.r) with
  | false => exact .inl rfl
  | true =>
    cases h2 : (y.n == h.n) with
    | false => exact .inr ⟨rfl, rfl⟩
    | true => exact absurd ⟨by simpa using h1, by simpa using h2⟩ hs
theorem SN_yes {y h : Ho} (hs : SN y h) : (y.r == h.r) = true ∧ (y.n == h.n) = true := ⟨by simpa using hs.1, by simpa using hs.2⟩
/-- Where one lies in order. -/
theorem isort_place {L : List Ho} {h x : Ho} (hL : Apart L) (hx : x ∈ L) (hs : SN x h) : ∃ j, j < (isort L).length ∧ (isort L).getD j z5 = x ∧ ∀ k, k < (isort L).length → k ≠ j → ¬ SN ((isort L).getD k z5) h := by
  obtain ⟨j, hj, e⟩ := mem_getD ((isort_perm L).mem_iff.2 hx)
  refine ⟨j, hj, e, fun k hk hkj hs' => ?_⟩
  have hr := isort_rises hL
  have hs2 : SN ((isort L).getD k z5) ((isort L).getD j z5) := by rw [e]; exact hs'.trans hs.symm
  rw [getD_get hk, getD_get hj] at hs2
  rcases Nat.lt_trichotomy k j with h1 | h1 | h1
  · exact (List.pairwise_iff_getElem.1 hr k j hk hj h1).apart hs2
  · exact hkj h1
  · exact (List.pairwise_iff_getElem.1 hr j k hj hk h1).apart hs2.symm
set_option maxHeartbeats 16000000 in
set_option maxRecDepth 100000 in
theorem rjoin_anyH (A B : Option Addr) (na ca nb cb : Nat) (xa xb : List Ho) (w : World) (hda : Row w A na xa) (hdb : Row w B nb xb) :
    Calls Tryz.prog 20 #[.slice A na ca, .slice B nb cb] w fun e w' => ∃ v, e = .returned (.tuple #[v, .int .i64 (joinE xa xb)]) ∧ Own w' w.heap.size v (joinLH xa xb) ∧ Below w.heap.size w w' := by
  have HDA := Lib.hid hda; have HLA := Lib.hid hda.1; have HNBA := Lib.hid hda.2.1; clear hda
  have HDB := Lib.hid hdb; have HLB := Lib.hid hdb.1; have HNBB := Lib.hid hdb.2.1; clear hdb
  have HK := Lib.hid (KeepR.start w)
  cases hra : rightsL xa with
  | false =>
    obtain ⟨e1, e2⟩ := join_bad (a := xa) (b := xb) (by rw [hra, Bool.false_and])
    rw [e1, e2]
    have HRA := Lib.hid hra
    clear e1 e2
    go_enter Tryz.func20, Tryz.ntmps20
    go_wp2_with (first
      | (go_at_call 42; (with_reducible refine (rrights_eq _ _ _ _ _ HRA.out _ (HDA.out.below HK.out.bel (Nat.le_refl _))).mono ?_); rintro e u ⟨rfl, hb⟩; have hk := HK.out.call hb; clear hb; clear HK; have HK := Lib.hid hk; clear hk))
    go_ret2
    exact ⟨_, rfl, Own.nil _ _, HK.out.bel⟩
  | true =>
    have HRA := Lib.hid hra
    cases hrb : rightsL xb with
    | false =>
      obtain ⟨e1, e2⟩ := join_bad (a := xa) (b := xb) (by rw [hrb, Bool.and_false])
      rw [e1, e2]
      have HRB := Lib.hid hrb
      clear e1 e2
      go_enter Tryz.func20, Tryz.ntmps20
      go_wp2_with (first
        | (go_at_call 42; (with_reducible refine (rrights_eq _ _ _ _ _ HRA.out _ (HDA.out.below HK.out.bel (Nat.le_refl _))).mono ?_); rintro e u ⟨rfl, hb⟩; have hk := HK.out.call hb; clear hb; clear HK; have HK := Lib.hid hk; clear hk)
        | (go_at_call 42; (with_reducible refine (rrights_eq _ _ _ _ _ HRB.out _ (HDB.out.below HK.out.bel (Nat.le_refl _))).mono ?_); rintro e u ⟨rfl, hb⟩; have hk := HK.out.call hb; clear hb; clear HK; have HK := Lib.hid hk; clear hk))
      go_ret2
      exact ⟨_, rfl, Own.nil _ _, HK.out.bel⟩
    | true =>
      have HRB := Lib.hid hrb
      have HAB := Lib.hid (show (rightsL xa && rightsL xb) = true by rw [hra, hrb]; rfl)
      have HPWA := Lib.hid (rights_iff.1 hra).2.2; have H16A := Lib.hid (rights_iff.1 hra).1
      have HPWB := Lib.hid (rights_iff.1 hrb).2.2; have H16B := Lib.hid (rights_iff.1 hrb).1
      clear hra hrb
      go_enter Tryz.func20, Tryz.ntmps20
      go_wp2_with (first
        | (go_at_call 42; (with_reducible refine (rrights_eq _ _ _ _ _ HRA.out _ (HDA.out.below HK.out.bel (Nat.le_refl _))).mono ?_); rintro e u ⟨rfl, hb⟩; have hk := HK.out.call hb; clear hb; clear HK; have HK := Lib.hid hk; clear hk)
        | (go_at_call 42; (with_reducible refine (rrights_eq _ _ _ _ _ HRB.out _ (HDB.out.below HK.out.bel (Nat.le_refl _))).mono ?_); rintro e u ⟨rfl, hb⟩; have hk := HK.out.call hb; clear hb; clear HK; have HK := Lib.hid hk; clear hk)
        | (with_reducible refine build_none HK.out rfl rfl ?_; intro v1 u hk; clear HK; have HK := Lib.hid hk; clear hk)
        | (refine app_hos HK.out rfl _ _ rfl rfl _ _ _ xa rfl (HDA.out.below HK.out.keep.bel (Nat.le_refl _)) (by have := HNBA.out; simp; omega) ?_; intro v2 u hk0; have hk : KeepH w [] v2 xa u := hk0; clear hk0; clear HK; have HK := Lib.hid hk; clear hk))
      go_loopw [6, 7] (fun v i wr => ∃ m : Nat, m ≤ nb ∧ i = .int .i64 m ∧ (∀ j, j < m → clB xa (xb.getD j z5) = false) ∧ KeepH w [] v (isort (jraw xa (xb.take m))) wr) (fun _ i _ => nb - (intOf i).toNat)
      case atStart => exact ⟨0, by omega, rfl, by omega, by rw [List.take_zero, jraw_nil, isort_id HPWA.out]; exact HK.out⟩
      case round =>
        obtain ⟨m, hm, rfl, hu, hk⟩ := hrel
        clear HK
        have HK := Lib.hid hk; have HU := Lib.hid hu
        clear hk hu
        have hlen := (jraw_length xa (xb.take m)).2
        have hpl := (isort_perm (jraw xa (xb.take m))).length_eq
        have htl : (xb.take m).length ≤ 16 := by have := H16B.out; simp; omega
        have h16a := H16A.out
        by_cases hlt : m < nb
        · have hnb := HNBB.out
          have hmb : m < xb.length := by have := HLB.out; omega
          have HMB := Lib.hid hmb
          have htk : xb.take (m + 1) = xb.take m ++ [xb.getD m z5] := take_succ_getD hmb
          have hta := take_apart HPWB.out hmb
          have hapt : Apart (xb.take m) := (Apart.of_rises HPWB.out).sublist (List.take_sublist _ _)
          have hap := jraw_apart (Apart.of_rises HPWA.out) hapt
          obtain ⟨b, off, rfl, hr⟩ := HDB.out.at hlt
          have hrm := hr m hlt
          clear hr
          obtain ⟨h, hh⟩ : ∃ h, xb.getD m z5 = h := ⟨_, rfl⟩
          rw [hh] at hrm htk hta
          have HH := Lib.hid hh
          have HR := Lib.hid hrm; have HC := Lib.hid (range_lt hrm)
          clear hrm hh
          have i1 : (0 : Int) ≤ (m : Int) := by omega
          have i2 : (m : Int) < (nb : Int) := by omega
          obtain ⟨L, hL⟩ : ∃ L, jraw xa (xb.take m) = L := ⟨_, rfl⟩
          rw [hL] at HK hlen hpl hap
          obtain ⟨O, hO⟩ : ∃ O, isort L = O := ⟨_, rfl⟩
          rw [hO] at HK hpl
          obtain ⟨N, hN⟩ : ∃ N, O.length = N := ⟨_, rfl⟩
          have HN := Lib.hid hN
          have HLEN := Lib.hid (show O.length ≤ 1000 by omega)
          obtain ⟨A1, c1, hv, hcap⟩ := own_len HK.out.own hN
          subst hv
          have HCAP := Lib.hid hcap
          have HNB := Lib.hid (show N ≤ 40 by omega)
          clear hlen hpl htl h16a hcap
          rcases plc_cases xa h.r h.n with ⟨_, hno⟩ | ⟨i0, hi0, _, hyes, hno⟩
          · have hf := fnd_miss hno
            have hnone : ∀ z ∈ O, ¬ SN z h := fun z hz => by
              rw [← hO, (isort_perm L).mem_iff, ← hL] at hz
              exact jraw_no (fnd_none_iff.1 hf) hta z hz
            have HNONE := Lib.hid hnone
            have HCL := Lib.hid (show clB xa h = false from clB_miss hf)
            have HNX := Lib.hid (show isort (jraw xa (xb.take (m + 1))) = insH O h by
              rw [htk, jraw_new hf, hL, ← hO]
              exact (isort_insert hap fun x hx => hnone x (by rw [← hO]; exact (isort_perm L).mem_iff.2 hx)).symm)
            clear hf hno hnone hL hO hN htk hta hap hapt hmb
            go_wp2
            go_loopw [8, 9] (fun t k wr => ∃ p : Nat, p ≤ N ∧ k = .int .i64 p ∧ t = .int .i64 (-1) ∧ KeepH w [] (.slice A1 N c1) O wr) (fun _ k _ => N - (intOf k).toNat)
            case atStart => exact ⟨0, by omega, rfl, rfl, HK.out⟩
            case round =>
              obtain ⟨p, hp, rfl, rfl, hk⟩ := hrel
              clear HK
              have HK := Lib.hid hk
              clear hk
              have hnn := HNB.out
              by_cases hpn : p < N
              · have hns := HNONE.out _ (getD_mem (show p < O.length by have := HN.out; omega))
                obtain ⟨y, hy⟩ : ∃ y, O.getD p z5 = y := ⟨_, rfl⟩
                have HPE := Lib.hid hy
                have HPL := Lib.hid (show p < O.length by have := HN.out; omega)
                have j1 : (0 : Int) ≤ (p : Int) := by omega
                have j2 : (p : Int) < (N : Int) := by omega
                obtain ⟨g, rfl⟩ := own_some HK.out.own (by have := HN.out; omega)
                rw [hy] at hns
                clear hy
                rcases SN_not hns with q1 | ⟨q1, q2⟩
                · have HQ1 := Lib.hid q1
                  clear hns q1
                  go_wp2
                  refine Draws.start (S := fun u => KeepH w [] (.slice (some ⟨g, 0, none⟩) N c1) O u) (n := 24) 24 rfl (by kernel_rfl) ?_
                  have HS := Lib.hid (show (fun u => KeepH w [] (.slice (some ⟨g, 0, none⟩) N c1) O u) _ from HK.out.drew)
                  refine Draws.take 0 (v := ?v13) HS.out rfl (by kernel_rfl) (fun _ _ _ h => h) (Or.inl ⟨rfl, ?h13⟩) ?r13
                  case h13 => intro w' hw'; go_simp; (try with_reducible rfl)
                  (try simp only [Act.put, List.setIfInBounds_toArray, List.set_cons_zero, List.set_cons_succ])
                  refine Draws.take 1 (v := ?v14) HS.out rfl (by kernel_rfl) (fun _ _ _ h => h) (Or.inl ⟨rfl, ?h14⟩) ?r14
                  case h14 => intro w' hw'; go_simp; (try with_reducible rfl)
                  (try simp only [Act.put, List.setIfInBounds_toArray, List.set_cons_zero, List.set_cons_succ])
                  refine Draws.take 2 (v := ?v15) HS.out rfl (by kernel_rfl) (fun _ _ _ h => h) (Or.inl ⟨rfl, ?h15⟩) ?r15
                  case h15 => intro w' hw'; go_simp; (try with_reducible rfl)
                  (try simp only [Act.put, List.setIfInBounds_toArray, List.set_cons_zero, List.set_cons_succ])
                  refine Draws.take 3 (v := ?v16) HS.out rfl (by kernel_rfl) (fun _ _ _ h => h) (Or.inl ⟨rfl, ?h16⟩) ?r16
                  case h16 => intro w' hw'; go_simp; (try with_reducible rfl)
                  (try simp only [Act.put, List.setIfInBounds_toArray, List.set_cons_zero, List.set_cons_succ])
                  refine Draws.take 4 HS.out rfl (by kernel_rfl) (fun _ _ _ h => h) (yield_int (fun _ hu => (range5 (own_load hu.own HPL.out HPE.out)).1) _ rfl rfl rfl) ?_
                  (try simp only [Act.put, List.setIfInBounds_toArray, List.set_cons_zero, List.set_cons_succ])
                  refine Draws.take 5 (v := ?v17) HS.out rfl (by kernel_rfl) (fun _ _ _ h => h) (Or.inl ⟨rfl, ?h17⟩) ?r17
                  case h17 => intro w' hw'; go_simp; (try with_reducible rfl)
                  (try simp only [Act.put, List.setIfInBounds_toArray, List.set_cons_zero, List.set_cons_succ])
                  refine Draws.take 6 (v := ?v18) HS.out rfl (by kernel_rfl) (fun _ _ _ h => h) (Or.inl ⟨rfl, ?h18⟩) ?r18
                  case h18 => intro w' hw'; go_simp; (try with_reducible rfl)
                  (try simp only [Act.put, List.setIfInBounds_toArray, List.set_cons_zero, List.set_cons_succ])
                  refine Draws.take 7 (v := ?v19) HS.out rfl (by kernel_rfl) (fun _ _ _ h => h) (Or.inl ⟨rfl, ?h19⟩) ?r19
                  case h19 => intro w' hw'; go_simp; (try with_reducible rfl)
                  (try simp only [Act.put, List.setIfInBounds_toArray, List.set_cons_zero, List.set_cons_succ])
                  refine Draws.take 8 (v := ?v20) HS.out rfl (by kernel_rfl) (fun _ _ _ h => h) (Or.inl ⟨rfl, ?h20⟩) ?r20
                  case h20 => intro w' hw'; go_simp; (try with_reducible rfl)
                  (try simp only [Act.put, List.setIfInBounds_toArray, List.set_cons_zero, List.set_cons_succ])
                  refine Draws.take 9 HS.out rfl (by kernel_rfl) (fun _ _ _ h => h) (yield_int (fun _ hu => (range5 (range_below HR.out hu.keep.bel HC.out)).1) _ rfl rfl rfl) ?_
                  (try simp only [Act.put, List.setIfInBounds_toArray, List.set_cons_zero, List.set_cons_succ])
                  refine Draws.take 10 HS.out rfl (by kernel_rfl) (fun _ _ _ h => h) (yield_eql HQ1.out _ _ _ rfl rfl rfl rfl) ?_
                  (try simp only [Act.put, List.setIfInBounds_toArray, List.set_cons_zero, List.set_cons_succ])
                  refine Draws.take 11 (v := ?v21) HS.out rfl (by kernel_rfl) (fun _ _ _ h => h) (Or.inl ⟨rfl, ?h21⟩) ?r21
                  case h21 => intro w' hw'; go_simp; (try with_reducible rfl)
                  (try simp only [Act.put, List.setIfInBounds_toArray, List.set_cons_zero, List.set_cons_succ])
                  refine Draws.take 12 HS.out rfl (by kernel_rfl) (fun _ _ _ h => h) (Or.inr ⟨rfl, rfl⟩) ?_
                  (try simp only [Act.put, List.setIfInBounds_toArray, List.set_cons_zero, List.set_cons_succ])
                  refine Draws.take 13 HS.out rfl (by kernel_rfl) (fun _ _ _ h => h) (Or.inr ⟨rfl, rfl⟩) ?_
                  (try simp only [Act.put, List.setIfInBounds_toArray, List.set_cons_zero, List.set_cons_succ])
                  refine Draws.take 14 HS.out rfl (by kernel_rfl) (fun _ _ _ h => h) (Or.inr ⟨rfl, rfl⟩) ?_
                  (try simp only [Act.put, List.setIfInBounds_toArray, List.set_cons_zero, List.set_cons_succ])
                  refine Draws.take 15 HS.out rfl (by kernel_rfl) (fun _ _ _ h => h) (Or.inr ⟨rfl, rfl⟩) ?_
                  (try simp only [Act.put, List.setIfInBounds_toArray, List.set_cons_zero, List.set_cons_succ])
                  refine Draws.take 16 HS.out rfl (by kernel_rfl) (fun _ _ _ h => h) (Or.inr ⟨rfl, rfl⟩) ?_
                  (try simp only [Act.put, List.setIfInBounds_toArray, List.set_cons_zero, List.set_cons_succ])
                  refine Draws.take 17 HS.out rfl (by kernel_rfl) (fun _ _ _ h => h) (Or.inr ⟨rfl, rfl⟩) ?_
                  (try simp only [Act.put, List.setIfInBounds_toArray, List.set_cons_zero, List.set_cons_succ])
                  refine Draws.take 18 HS.out rfl (by kernel_rfl) (fun _ _ _ h => h) (Or.inr ⟨rfl, rfl⟩) ?_
                  (try simp only [Act.put, List.setIfInBounds_toArray, List.set_cons_zero, List.set_cons_succ])
                  refine Draws.take 19 HS.out rfl (by kernel_rfl) (fun _ _ _ h => h) (Or.inr ⟨rfl, rfl⟩) ?_
                  (try simp only [Act.put, List.setIfInBounds_toArray, List.set_cons_zero, List.set_cons_succ])
                  refine Draws.take 20 HS.out rfl (by kernel_rfl) (fun _ _ _ h => h) (Or.inr ⟨rfl, rfl⟩) ?_
                  (try simp only [Act.put, List.setIfInBounds_toArray, List.set_cons_zero, List.set_cons_succ])
                  refine Draws.take 21 HS.out rfl (by kernel_rfl) (fun _ _ _ h => h) (Or.inr ⟨rfl, rfl⟩) ?_
                  (try simp only [Act.put, List.setIfInBounds_toArray, List.set_cons_zero, List.set_cons_succ])
                  refine Draws.take 22 HS.out rfl (by kernel_rfl) (fun _ _ _ h => h) (Or.inr ⟨rfl, rfl⟩) ?_
                  (try simp only [Act.put, List.setIfInBounds_toArray, List.set_cons_zero, List.set_cons_succ])
                  refine Draws.take 23 (v := ?v22) HS.out rfl (by kernel_rfl) (fun _ _ _ h => h) (Or.inl ⟨rfl, ?h22⟩) ?r22
                  case h22 => intro w' hw'; go_simp; (try with_reducible rfl)
                  (try simp only [Act.put, List.setIfInBounds_toArray, List.set_cons_zero, List.set_cons_succ])
                  refine Draws.done (by kernel_rfl) ?_
                  clear HK
                  have HK := HS
                  clear HS
                  go_wp2
                  go_roundw
                  case rel => exact ⟨p + 1, by omega, by go_num, rfl, HK.out⟩
                  case measure => simp [intOf]; omega
                · have HQ1 := Lib.hid q1; have HQ2 := Lib.hid q2
                  clear hns q1 q2
                  go_wp2
                  refine Draws.start (S := fun u => KeepH w [] (.slice (some ⟨g, 0, none⟩) N c1) O u) (n := 24) 24 rfl (by kernel_rfl) ?_
                  have HS := Lib.hid (show (fun u => KeepH w [] (.slice (some ⟨g, 0, none⟩) N c1) O u) _ from HK.out.drew)
                  refine Draws.take 0 (v := ?v23) HS.out rfl (by kernel_rfl) (fun _ _ _ h => h) (Or.inl ⟨rfl, ?h23⟩) ?r23
                  case h23 => intro w' hw'; go_simp; (try with_reducible rfl)
                  (try simp only [Act.put, List.setIfInBounds_toArray, List.set_cons_zero, List.set_cons_succ])
                  refine Draws.take 1 (v := ?v24) HS.out rfl (by kernel_rfl) (fun _ _ _ h => h) (Or.inl ⟨rfl, ?h24⟩) ?r24
                  case h24 => intro w' hw'; go_simp; (try with_reducible rfl)
                  (try simp only [Act.put, List.setIfInBounds_toArray, List.set_cons_zero, List.set_cons_succ])
                  refine Draws.take 2 (v := ?v25) HS.out rfl (by kernel_rfl) (fun _ _ _ h => h) (Or.inl ⟨rfl, ?h25⟩) ?r25
                  case h25 => intro w' hw'; go_simp; (try with_reducible rfl)
                  (try simp only [Act.put, List.setIfInBounds_toArray, List.set_cons_zero, List.set_cons_succ])
                  refine Draws.take 3 (v := ?v26) HS.out rfl (by kernel_rfl) (fun _ _ _ h => h) (Or.inl ⟨rfl, ?h26⟩) ?r26
                  case h26 => intro w' hw'; go_simp; (try with_reducible rfl)
                  (try simp only [Act.put, List.setIfInBounds_toArray, List.set_cons_zero, List.set_cons_succ])
                  refine Draws.take 4 HS.out rfl (by kernel_rfl) (fun _ _ _ h => h) (yield_int (fun _ hu => (range5 (own_load hu.own HPL.out HPE.out)).1) _ rfl rfl rfl) ?_
                  (try simp only [Act.put, List.setIfInBounds_toArray, List.set_cons_zero, List.set_cons_succ])
                  refine Draws.take 5 (v := ?v27) HS.out rfl (by kernel_rfl) (fun _ _ _ h => h) (Or.inl ⟨rfl, ?h27⟩) ?r27
                  case h27 => intro w' hw'; go_simp; (try with_reducible rfl)
                  (try simp only [Act.put, List.setIfInBounds_toArray, List.set_cons_zero, List.set_cons_succ])
                  refine Draws.take 6 (v := ?v28) HS.out rfl (by kernel_rfl) (fun _ _ _ h => h) (Or.inl ⟨rfl, ?h28⟩) ?r28
                  case h28 => intro w' hw'; go_simp; (try with_reducible rfl)
                  (try simp only [Act.put, List.setIfInBounds_toArray, List.set_cons_zero, List.set_cons_succ])
                  refine Draws.take 7 (v := ?v29) HS.out rfl (by kernel_rfl) (fun _ _ _ h => h) (Or.inl ⟨rfl, ?h29⟩) ?r29
                  case h29 => intro w' hw'; go_simp; (try with_reducible rfl)
                  (try simp only [Act.put, List.setIfInBounds_toArray, List.set_cons_zero, List.set_cons_succ])
                  refine Draws.take 8 (v := ?v30) HS.out rfl (by kernel_rfl) (fun _ _ _ h => h) (Or.inl ⟨rfl, ?h30⟩) ?r30
                  case h30 => intro w' hw'; go_simp; (try with_reducible rfl)
                  (try simp only [Act.put, List.setIfInBounds_toArray, List.set_cons_zero, List.set_cons_succ])
                  refine Draws.take 9 HS.out rfl (by kernel_rfl) (fun _ _ _ h => h) (yield_int (fun _ hu => (range5 (range_below HR.out hu.keep.bel HC.out)).1) _ rfl rfl rfl) ?_
                  (try simp only [Act.put, List.setIfInBounds_toArray, List.set_cons_zero, List.set_cons_succ])
                  refine Draws.take 10 HS.out rfl (by kernel_rfl) (fun _ _ _ h => h) (yield_eql HQ1.out _ _ _ rfl rfl rfl rfl) ?_
                  (try simp only [Act.put, List.setIfInBounds_toArray, List.set_cons_zero, List.set_cons_succ])
                  refine Draws.take 11 (v := ?v31) HS.out rfl (by kernel_rfl) (fun _ _ _ h => h) (Or.inl ⟨rfl, ?h31⟩) ?r31
                  case h31 => intro w' hw'; go_simp; (try with_reducible rfl)
                  (try simp only [Act.put, List.setIfInBounds_toArray, List.set_cons_zero, List.set_cons_succ])
                  refine Draws.take 12 (v := ?v32) HS.out rfl (by kernel_rfl) (fun _ _ _ h => h) (Or.inl ⟨rfl, ?h32⟩) ?r32
                  case h32 => intro w' hw'; go_simp; (try with_reducible rfl)
                  (try simp only [Act.put, List.setIfInBounds_toArray, List.set_cons_zero, List.set_cons_succ])
                  refine Draws.take 13 (v := ?v33) HS.out rfl (by kernel_rfl) (fun _ _ _ h => h) (Or.inl ⟨rfl, ?h33⟩) ?r33
                  case h33 => intro w' hw'; go_simp; (try with_reducible rfl)
                  (try simp only [Act.put, List.setIfInBounds_toArray, List.set_cons_zero, List.set_cons_succ])
                  refine Draws.take 14 (v := ?v34) HS.out rfl (by kernel_rfl) (fun _ _ _ h => h) (Or.inl ⟨rfl, ?h34⟩) ?r34
                  case h34 => intro w' hw'; go_simp; (try with_reducible rfl)
                  (try simp only [Act.put, List.setIfInBounds_toArray, List.set_cons_zero, List.set_cons_succ])
                  refine Draws.take 15 (v := ?v35) HS.out rfl (by kernel_rfl) (fun _ _ _ h => h) (Or.inl ⟨rfl, ?h35⟩) ?r35
                  case h35 => intro w' hw'; go_simp; (try with_reducible rfl)
                  (try simp only [Act.put, List.setIfInBounds_toArray, List.set_cons_zero, List.set_cons_succ])
                  refine Draws.take 16 HS.out rfl (by kernel_rfl) (fun _ _ _ h => h) (yield_int (fun _ hu => (range5 (own_load hu.own HPL.out HPE.out)).2.1) _ rfl rfl rfl) ?_
                  (try simp only [Act.put, List.setIfInBounds_toArray, List.set_cons_zero, List.set_cons_succ])
                  refine Draws.take 17 (v := ?v36) HS.out rfl (by kernel_rfl) (fun _ _ _ h => h) (Or.inl ⟨rfl, ?h36⟩) ?r36
                  case h36 => intro w' hw'; go_simp; (try with_reducible rfl)
                  (try simp only [Act.put, List.setIfInBounds_toArray, List.set_cons_zero, List.set_cons_succ])
                  refine Draws.take 18 (v := ?v37) HS.out rfl (by kernel_rfl) (fun _ _ _ h => h) (Or.inl ⟨rfl, ?h37⟩) ?r37
                  case h37 => intro w' hw'; go_simp; (try with_reducible rfl)
                  (try simp only [Act.put, List.setIfInBounds_toArray, List.set_cons_zero, List.set_cons_succ])
                  refine Draws.take 19 (v := ?v38) HS.out rfl (by kernel_rfl) (fun _ _ _ h => h) (Or.inl ⟨rfl, ?h38⟩) ?r38
                  case h38 => intro w' hw'; go_simp; (try with_reducible rfl)
                  (try simp only [Act.put, List.setIfInBounds_toArray, List.set_cons_zero, List.set_cons_succ])
                  refine Draws.take 20 (v := ?v39) HS.out rfl (by kernel_rfl) (fun _ _ _ h => h) (Or.inl ⟨rfl, ?h39⟩) ?r39
                  case h39 => intro w' hw'; go_simp; (try with_reducible rfl)
                  (try simp only [Act.put, List.setIfInBounds_toArray, List.set_cons_zero, List.set_cons_succ])
                  refine Draws.take 21 HS.out rfl (by kernel_rfl) (fun _ _ _ h => h) (yield_int (fun _ hu => (range5 (range_below HR.out hu.keep.bel HC.out)).2.1) _ rfl rfl rfl) ?_
                  (try simp only [Act.put, List.setIfInBounds_toArray, List.set_cons_zero, List.set_cons_succ])
                  refine Draws.take 22 HS.out rfl (by kernel_rfl) (fun _ _ _ h => h) (yield_eql HQ2.out _ _ _ rfl rfl rfl rfl) ?_
                  (try simp only [Act.put, List.setIfInBounds_toArray, List.set_cons_zero, List.set_cons_succ])
                  refine Draws.take 23 (v := ?v40) HS.out rfl (by kernel_rfl) (fun _ _ _ h => h) (Or.inl ⟨rfl, ?h40⟩) ?r40
                  case h40 => intro w' hw'; go_simp; (try with_reducible rfl)
                  (try simp only [Act.put, List.setIfInBounds_toArray, List.set_cons_zero, List.set_cons_succ])
                  refine Draws.done (by kernel_rfl) ?_
                  clear HK
                  have HK := HS
                  clear HS
                  go_wp2
                  go_roundw
                  case rel => exact ⟨p + 1, by omega, by go_num, rfl, HK.out⟩
                  case measure => simp [intOf]; omega
              · obtain rfl : p = N := by omega
                go_wp2_with (first
                  | (with_reducible refine load_hold (range_below HR.out HK.out.keep.bel HC.out) _ rfl rfl rfl ?_)
                  | (go_at_call 51; (with_reducible refine (put_any _ _ _ _ _ _ (HK.out.own.row HLEN.out) HCAP.out).mono ?_); rintro e u ⟨v3, rfl, ho, hb⟩; have hk := HK.out.other hb ho; clear ho hb; clear HK; have HK := Lib.hid hk; clear hk))
                go_roundw
                case rel => exact ⟨m + 1, by omega, by go_num, fun j hj => by
                  rcases Nat.lt_or_ge j m with h1 | h1
                  · exact HU.out j h1
                  · rw [show j = m by omega, HH.out]; exact HCL.out, by rw [HNX.out]; exact HK.out⟩
                case measure => simp [intOf]; omega
          · have hsn : SN (xa.getD i0 z5) h := nm_SN.1 hyes
            have hf := fnd_hit hi0 hno hyes
            obtain ⟨hj1, hj2⟩ := jraw_hit (c := xb.take m) HPWA.out hi0 hsn hta
            have hi0L : i0 < L.length := by
              have := (jraw_length xa (xb.take m)).1
              rw [hL] at this; omega
            rw [hL, ← htk] at hj1
            rw [hL] at hj2
            obtain ⟨x, hx⟩ : ∃ x, xa.getD i0 z5 = x := ⟨_, rfl⟩
            rw [hx] at hsn hf hj1 hj2
            obtain ⟨j0, hj0, hje, hjo⟩ := isort_place hap (show x ∈ L by rw [← hj2]; exact getD_mem hi0L) hsn
            rw [hO] at hj0 hje hjo
            have hcl := clB_hit hf
            have HNX := Lib.hid (show O.set j0 (setS x (max x.s h.s)) = isort (jraw xa (xb.take (m + 1))) by
              rw [hj1, ← hO]
              exact isort_set hap (by rw [hO]; exact hj0) hi0L (by rw [hO, hje, hj2]) (by rw [hj2]; exact ⟨rfl, rfl⟩))
            have HJO := Lib.hid hjo; have HJE := Lib.hid hje; have HJL := Lib.hid hj0; have HSN := Lib.hid hsn
            have hjN : j0 < N := by omega
            clear hj1 hj2 hf hx hno hyes hL hO hN htk hta hap hapt hmb hi0 hi0L hjo hje hj0 hsn
            go_wp2
            go_loopw [8, 9] (fun t k wr => ∃ p : Nat, p ≤ N ∧ k = .int .i64 p ∧ t = .int .i64 (if j0 < p then (j0 : Int) else -1) ∧ KeepH w [] (.slice A1 N c1) O wr) (fun _ k _ => N - (intOf k).toNat)
            case atStart => exact ⟨0, by omega, rfl, rfl, HK.out⟩
            case round =>
              obtain ⟨p, hp, rfl, rfl, hk⟩ := hrel
              clear HK
              have HK := Lib.hid hk
              clear hk
              have hnn := HNB.out
              by_cases hpn : p < N
              · generalize htt : (if j0 < p then (j0 : Int) else -1) = t
                have HTT := Lib.hid htt
                clear htt
                by_cases hpj : p = j0
                · subst hpj
                  have HPE := HJE; have HPL := HJL
                  have j1 : (0 : Int) ≤ (p : Int) := by omega
                  have j2 : (p : Int) < (N : Int) := by omega
                  obtain ⟨g, rfl⟩ := own_some HK.out.own (by have := HN.out; omega)
                  have HQ1 := Lib.hid (SN_yes HSN.out).1; have HQ2 := Lib.hid (SN_yes HSN.out).2
                  go_wp2
                  refine Draws.start (S := fun u => KeepH w [] (.slice (some ⟨g, 0, none⟩) N c1) O u) (n := 24) 24 rfl (by kernel_rfl) ?_
                  have HS := Lib.hid (show (fun u => KeepH w [] (.slice (some ⟨g, 0, none⟩) N c1) O u) _ from HK.out.drew)
                  refine Draws.take 0 (v := ?v41) HS.out rfl (by kernel_rfl) (fun _ _ _ h => h) (Or.inl ⟨rfl, ?h41⟩) ?r41
                  case h41 => intro w' hw'; go_simp; (try with_reducible rfl)
                  (try simp only [Act.put, List.setIfInBounds_toArray, List.set_cons_zero, List.set_cons_succ])
                  refine Draws.take 1 (v := ?v42) HS.out rfl (by kernel_rfl) (fun _ _ _ h => h) (Or.inl ⟨rfl, ?h42⟩) ?r42
                  case h42 => intro w' hw'; go_simp; (try with_reducible rfl)
                  (try simp only [Act.put, List.setIfInBounds_toArray, List.set_cons_zero, List.set_cons_succ])
                  refine Draws.take 2 (v := ?v43) HS.out rfl (by kernel_rfl) (fun _ _ _ h => h) (Or.inl ⟨rfl, ?h43⟩) ?r43
                  case h43 => intro w' hw'; go_simp; (try with_reducible rfl)
                  (try simp only [Act.put, List.setIfInBounds_toArray, List.set_cons_zero, List.set_cons_succ])
                  refine Draws.take 3 (v := ?v44) HS.out rfl (by kernel_rfl) (fun _ _ _ h => h) (Or.inl ⟨rfl, ?h44⟩) ?r44
                  case h44 => intro w' hw'; go_simp; (try with_reducible rfl)
                  (try simp only [Act.put, List.setIfInBounds_toArray, List.set_cons_zero, List.set_cons_succ])
                  refine Draws.take 4 HS.out rfl (by kernel_rfl) (fun _ _ _ h => h) (yield_int (fun _ hu => (range5 (own_load hu.own HPL.out HPE.out)).1) _ rfl rfl rfl) ?_
                  (try simp only [Act.put, List.setIfInBounds_toArray, List.set_cons_zero, List.set_cons_succ])
                  refine Draws.take 5 (v := ?v45) HS.out rfl (by kernel_rfl) (fun _ _ _ h => h) (Or.inl ⟨rfl, ?h45⟩) ?r45
                  case h45 => intro w' hw'; go_simp; (try with_reducible rfl)
                  (try simp only [Act.put, List.setIfInBounds_toArray, List.set_cons_zero, List.set_cons_succ])
                  refine Draws.take 6 (v := ?v46) HS.out rfl (by kernel_rfl) (fun _ _ _ h => h) (Or.inl ⟨rfl, ?h46⟩) ?r46
                  case h46 => intro w' hw'; go_simp; (try with_reducible rfl)
                  (try simp only [Act.put, List.setIfInBounds_toArray, List.set_cons_zero, List.set_cons_succ])
                  refine Draws.take 7 (v := ?v47) HS.out rfl (by kernel_rfl) (fun _ _ _ h => h) (Or.inl ⟨rfl, ?h47⟩) ?r47
                  case h47 => intro w' hw'; go_simp; (try with_reducible rfl)
                  (try simp only [Act.put, List.setIfInBounds_toArray, List.set_cons_zero, List.set_cons_succ])
                  refine Draws.take 8 (v := ?v48) HS.out rfl (by kernel_rfl) (fun _ _ _ h => h) (Or.inl ⟨rfl, ?h48⟩) ?r48
                  case h48 => intro w' hw'; go_simp; (try with_reducible rfl)
                  (try simp only [Act.put, List.setIfInBounds_toArray, List.set_cons_zero, List.set_cons_succ])
                  refine Draws.take 9 HS.out rfl (by kernel_rfl) (fun _ _ _ h => h) (yield_int (fun _ hu => (range5 (range_below HR.out hu.keep.bel HC.out)).1) _ rfl rfl rfl) ?_
                  (try simp only [Act.put, List.setIfInBounds_toArray, List.set_cons_zero, List.set_cons_succ])
                  refine Draws.take 10 HS.out rfl (by kernel_rfl) (fun _ _ _ h => h) (yield_eql HQ1.out _ _ _ rfl rfl rfl rfl) ?_
                  (try simp only [Act.put, List.setIfInBounds_toArray, List.set_cons_zero, List.set_cons_succ])
                  refine Draws.take 11 (v := ?v49) HS.out rfl (by kernel_rfl) (fun _ _ _ h => h) (Or.inl ⟨rfl, ?h49⟩) ?r49
                  case h49 => intro w' hw'; go_simp; (try with_reducible rfl)
                  (try simp only [Act.put, List.setIfInBounds_toArray, List.set_cons_zero, List.set_cons_succ])
                  refine Draws.take 12 (v := ?v50) HS.out rfl (by kernel_rfl) (fun _ _ _ h => h) (Or.inl ⟨rfl, ?h50⟩) ?r50
                  case h50 => intro w' hw'; go_simp; (try with_reducible rfl)
                  (try simp only [Act.put, List.setIfInBounds_toArray, List.set_cons_zero, List.set_cons_succ])
                  refine Draws.take 13 (v := ?v51) HS.out rfl (by kernel_rfl) (fun _ _ _ h => h) (Or.inl ⟨rfl, ?h51⟩) ?r51
                  case h51 => intro w' hw'; go_simp; (try with_reducible rfl)
                  (try simp only [Act.put, List.setIfInBounds_toArray, List.set_cons_zero, List.set_cons_succ])
                  refine Draws.take 14 (v := ?v52) HS.out rfl (by kernel_rfl) (fun _ _ _ h => h) (Or.inl ⟨rfl, ?h52⟩) ?r52
                  case h52 => intro w' hw'; go_simp; (try with_reducible rfl)
                  (try simp only [Act.put, List.setIfInBounds_toArray, List.set_cons_zero, List.set_cons_succ])
                  refine Draws.take 15 (v := ?v53) HS.out rfl (by kernel_rfl) (fun _ _ _ h => h) (Or.inl ⟨rfl, ?h53⟩) ?r53
                  case h53 => intro w' hw'; go_simp; (try with_reducible rfl)
                  (try simp only [Act.put, List.setIfInBounds_toArray, List.set_cons_zero, List.set_cons_succ])
                  refine Draws.take 16 HS.out rfl (by kernel_rfl) (fun _ _ _ h => h) (yield_int (fun _ hu => (range5 (own_load hu.own HPL.out HPE.out)).2.1) _ rfl rfl rfl) ?_
                  (try simp only [Act.put, List.setIfInBounds_toArray, List.set_cons_zero, List.set_cons_succ])
                  refine Draws.take 17 (v := ?v54) HS.out rfl (by kernel_rfl) (fun _ _ _ h => h) (Or.inl ⟨rfl, ?h54⟩) ?r54
                  case h54 => intro w' hw'; go_simp; (try with_reducible rfl)
                  (try simp only [Act.put, List.setIfInBounds_toArray, List.set_cons_zero, List.set_cons_succ])
                  refine Draws.take 18 (v := ?v55) HS.out rfl (by kernel_rfl) (fun _ _ _ h => h) (Or.inl ⟨rfl, ?h55⟩) ?r55
                  case h55 => intro w' hw'; go_simp; (try with_reducible rfl)
                  (try simp only [Act.put, List.setIfInBounds_toArray, List.set_cons_zero, List.set_cons_succ])
                  refine Draws.take 19 (v := ?v56) HS.out rfl (by kernel_rfl) (fun _ _ _ h => h) (Or.inl ⟨rfl, ?h56⟩) ?r56
                  case h56 => intro w' hw'; go_simp; (try with_reducible rfl)
                  (try simp only [Act.put, List.setIfInBounds_toArray, List.set_cons_zero, List.set_cons_succ])
                  refine Draws.take 20 (v := ?v57) HS.out rfl (by kernel_rfl) (fun _ _ _ h => h) (Or.inl ⟨rfl, ?h57⟩) ?r57
                  case h57 => intro w' hw'; go_simp; (try with_reducible rfl)
                  (try simp only [Act.put, List.setIfInBounds_toArray, List.set_cons_zero, List.set_cons_succ])
                  refine Draws.take 21 HS.out rfl (by kernel_rfl) (fun _ _ _ h => h) (yield_int (fun _ hu => (range5 (range_below HR.out hu.keep.bel HC.out)).2.1) _ rfl rfl rfl) ?_
                  (try simp only [Act.put, List.setIfInBounds_toArray, List.set_cons_zero, List.set_cons_succ])
                  refine Draws.take 22 HS.out rfl (by kernel_rfl) (fun _ _ _ h => h) (yield_eql HQ2.out _ _ _ rfl rfl rfl rfl) ?_
                  (try simp only [Act.put, List.setIfInBounds_toArray, List.set_cons_zero, List.set_cons_succ])
                  refine Draws.take 23 (v := ?v58) HS.out rfl (by kernel_rfl) (fun _ _ _ h => h) (Or.inl ⟨rfl, ?h58⟩) ?r58
                  case h58 => intro w' hw'; go_simp; (try with_reducible rfl)
                  (try simp only [Act.put, List.setIfInBounds_toArray, List.set_cons_zero, List.set_cons_succ])
                  refine Draws.done (by kernel_rfl) ?_
                  clear HK
                  have HK := HS
                  clear HS
                  go_wp2
                  go_roundw
                  case rel => exact ⟨p + 1, by omega, by go_num, by rw [if_pos (by omega)], HK.out⟩
                  case measure => simp [intOf]; omega
                · have hns := HJO.out p (by have := HN.out; omega) hpj
                  obtain ⟨y, hy⟩ : ∃ y, O.getD p z5 = y := ⟨_, rfl⟩
                  have HPE := Lib.hid hy
                  have HPL := Lib.hid (show p < O.length by have := HN.out; omega)
                  have j1 : (0 : Int) ≤ (p : Int) := by omega
                  have j2 : (p : Int) < (N : Int) := by omega
                  obtain ⟨g, rfl⟩ := own_some HK.out.own (by have := HN.out; omega)
                  rw [hy] at hns
                  clear hy
                  have HT2 := Lib.hid (show (if j0 < p + 1 then (j0 : Int) else -1) = t by
                    rw [← HTT.out]
                    by_cases h1 : j0 < p
                    · rw [if_pos h1, if_pos (by omega)]
                    · rw [if_neg h1, if_neg (by omega)])
                  rcases SN_not hns with q1 | ⟨q1, q2⟩
                  · have HQ1 := Lib.hid q1
                    clear hns q1
                    go_wp2
                    refine Draws.start (S := fun u => KeepH w [] (.slice (some ⟨g, 0, none⟩) N c1) O u) (n := 24) 24 rfl (by kernel_rfl) ?_
                    have HS := Lib.hid (show (fun u => KeepH w [] (.slice (some ⟨g, 0, none⟩) N c1) O u) _ from HK.out.drew)
                    refine Draws.take 0 (v := ?v59) HS.out rfl (by kernel_rfl) (fun _ _ _ h => h) (Or.inl ⟨rfl, ?h59⟩) ?r59
                    case h59 => intro w' hw'; go_simp; (try with_reducible rfl)
                    (try simp only [Act.put, List.setIfInBounds_toArray, List.set_cons_zero, List.set_cons_succ])
                    refine Draws.take 1 (v := ?v60) HS.out rfl (by kernel_rfl) (fun _ _ _ h => h) (Or.inl ⟨rfl, ?h60⟩) ?r60
                    case h60 => intro w' hw'; go_simp; (try with_reducible rfl)
                    (try simp only [Act.put, List.setIfInBounds_toArray, List.set_cons_zero, List.set_cons_succ])
                    refine Draws.take 2 (v := ?v61) HS.out rfl (by kernel_rfl) (fun _ _ _ h => h) (Or.inl ⟨rfl, ?h61⟩) ?r61
                    case h61 => intro w' hw'; go_simp; (try with_reducible rfl)
                    (try simp only [Act.put, List.setIfInBounds_toArray, List.set_cons_zero, List.set_cons_succ])
                    refine Draws.take 3 (v := ?v62) HS.out rfl (by kernel_rfl) (fun _ _ _ h => h) (Or.inl ⟨rfl, ?h62⟩) ?r62
                    case h62 => intro w' hw'; go_simp; (try with_reducible rfl)
                    (try simp only [Act.put, List.setIfInBounds_toArray, List.set_cons_zero, List.set_cons_succ])
                    refine Draws.take 4 HS.out rfl (by kernel_rfl) (fun _ _ _ h => h) (yield_int (fun _ hu => (range5 (own_load hu.own HPL.out HPE.out)).1) _ rfl rfl rfl) ?_
                    (try simp only [Act.put, List.setIfInBounds_toArray, List.set_cons_zero, List.set_cons_succ])
                    refine Draws.take 5 (v := ?v63) HS.out rfl (by kernel_rfl) (fun _ _ _ h => h) (Or.inl ⟨rfl, ?h63⟩) ?r63
                    case h63 => intro w' hw'; go_simp; (try with_reducible rfl)
                    (try simp only [Act.put, List.setIfInBounds_toArray, List.set_cons_zero, List.set_cons_succ])
                    refine Draws.take 6 (v := ?v64) HS.out rfl (by kernel_rfl) (fun _ _ _ h => h) (Or.inl ⟨rfl, ?h64⟩) ?r64
                    case h64 => intro w' hw'; go_simp; (try with_reducible rfl)
                    (try simp only [Act.put, List.setIfInBounds_toArray, List.set_cons_zero, List.set_cons_succ])
                    refine Draws.take 7 (v := ?v65) HS.out rfl (by kernel_rfl) (fun _ _ _ h => h) (Or.inl ⟨rfl, ?h65⟩) ?r65
                    case h65 => intro w' hw'; go_simp; (try with_reducible rfl)
                    (try simp only [Act.put, List.setIfInBounds_toArray, List.set_cons_zero, List.set_cons_succ])
                    refine Draws.take 8 (v := ?v66) HS.out rfl (by kernel_rfl) (fun _ _ _ h => h) (Or.inl ⟨rfl, ?h66⟩) ?r66
                    case h66 => intro w' hw'; go_simp; (try with_reducible rfl)
                    (try simp only [Act.put, List.setIfInBounds_toArray, List.set_cons_zero, List.set_cons_succ])
                    refine Draws.take 9 HS.out rfl (by kernel_rfl) (fun _ _ _ h => h) (yield_int (fun _ hu => (range5 (range_below HR.out hu.keep.bel HC.out)).1) _ rfl rfl rfl) ?_
                    (try simp only [Act.put, List.setIfInBounds_toArray, List.set_cons_zero, List.set_cons_succ])
                    refine Draws.take 10 HS.out rfl (by kernel_rfl) (fun _ _ _ h => h) (yield_eql HQ1.out _ _ _ rfl rfl rfl rfl) ?_
                    (try simp only [Act.put, List.setIfInBounds_toArray, List.set_cons_zero, List.set_cons_succ])
                    refine Draws.take 11 (v := ?v67) HS.out rfl (by kernel_rfl) (fun _ _ _ h => h) (Or.inl ⟨rfl, ?h67⟩) ?r67
                    case h67 => intro w' hw'; go_simp; (try with_reducible rfl)
                    (try simp only [Act.put, List.setIfInBounds_toArray, List.set_cons_zero, List.set_cons_succ])
                    refine Draws.take 12 HS.out rfl (by kernel_rfl) (fun _ _ _ h => h) (Or.inr ⟨rfl, rfl⟩) ?_
                    (try simp only [Act.put, List.setIfInBounds_toArray, List.set_cons_zero, List.set_cons_succ])
                    refine Draws.take 13 HS.out rfl (by kernel_rfl) (fun _ _ _ h => h) (Or.inr ⟨rfl, rfl⟩) ?_
                    (try simp only [Act.put, List.setIfInBounds_toArray, List.set_cons_zero, List.set_cons_succ])
                    refine Draws.take 14 HS.out rfl (by kernel_rfl) (fun _ _ _ h => h) (Or.inr ⟨rfl, rfl⟩) ?_
                    (try simp only [Act.put, List.setIfInBounds_toArray, List.set_cons_zero, List.set_cons_succ])
                    refine Draws.take 15 HS.out rfl (by kernel_rfl) (fun _ _ _ h => h) (Or.inr ⟨rfl, rfl⟩) ?_
                    (try simp only [Act.put, List.setIfInBounds_toArray, List.set_cons_zero, List.set_cons_succ])
                    refine Draws.take 16 HS.out rfl (by kernel_rfl) (fun _ _ _ h => h) (Or.inr ⟨rfl, rfl⟩) ?_
                    (try simp only [Act.put, List.setIfInBounds_toArray, List.set_cons_zero, List.set_cons_succ])
                    refine Draws.take 17 HS.out rfl (by kernel_rfl) (fun _ _ _ h => h) (Or.inr ⟨rfl, rfl⟩) ?_
                    (try simp only [Act.put, List.setIfInBounds_toArray, List.set_cons_zero, List.set_cons_succ])
                    refine Draws.take 18 HS.out rfl (by kernel_rfl) (fun _ _ _ h => h) (Or.inr ⟨rfl, rfl⟩) ?_
                    (try simp only [Act.put, List.setIfInBounds_toArray, List.set_cons_zero, List.set_cons_succ])
                    refine Draws.take 19 HS.out rfl (by kernel_rfl) (fun _ _ _ h => h) (Or.inr ⟨rfl, rfl⟩) ?_
                    (try simp only [Act.put, List.setIfInBounds_toArray, List.set_cons_zero, List.set_cons_succ])
                    refine Draws.take 20 HS.out rfl (by kernel_rfl) (fun _ _ _ h => h) (Or.inr ⟨rfl, rfl⟩) ?_
                    (try simp only [Act.put, List.setIfInBounds_toArray, List.set_cons_zero, List.set_cons_succ])
                    refine Draws.take 21 HS.out rfl (by kernel_rfl) (fun _ _ _ h => h) (Or.inr ⟨rfl, rfl⟩) ?_
                    (try simp only [Act.put, List.setIfInBounds_toArray, List.set_cons_zero, List.set_cons_succ])
                    refine Draws.take 22 HS.out rfl (by kernel_rfl) (fun _ _ _ h => h) (Or.inr ⟨rfl, rfl⟩) ?_
                    (try simp only [Act.put, List.setIfInBounds_toArray, List.set_cons_zero, List.set_cons_succ])
                    refine Draws.take 23 (v := ?v68) HS.out rfl (by kernel_rfl) (fun _ _ _ h => h) (Or.inl ⟨rfl, ?h68⟩) ?r68
                    case h68 => intro w' hw'; go_simp; (try with_reducible rfl)
                    (try simp only [Act.put, List.setIfInBounds_toArray, List.set_cons_zero, List.set_cons_succ])
                    refine Draws.done (by kernel_rfl) ?_
                    clear HK
                    have HK := HS
                    clear HS
                    go_wp2
                    go_roundw
                    case rel => exact ⟨p + 1, by omega, by go_num, by rw [HT2.out], HK.out⟩
                    case measure => simp [intOf]; omega
                  · have HQ1 := Lib.hid q1; have HQ2 := Lib.hid q2
                    clear hns q1 q2
                    go_wp2
                    refine Draws.start (S := fun u => KeepH w [] (.slice (some ⟨g, 0, none⟩) N c1) O u) (n := 24) 24 rfl (by kernel_rfl) ?_
                    have HS := Lib.hid (show (fun u => KeepH w [] (.slice (some ⟨g, 0, none⟩) N c1) O u) _ from HK.out.drew)
                    refine Draws.take 0 (v := ?v69) HS.out rfl (by kernel_rfl) (fun _ _ _ h => h) (Or.inl ⟨rfl, ?h69⟩) ?r69
                    case h69 => intro w' hw'; go_simp; (try with_reducible rfl)
                    (try simp only [Act.put, List.setIfInBounds_toArray, List.set_cons_zero, List.set_cons_succ])
                    refine Draws.take 1 (v := ?v70) HS.out rfl (by kernel_rfl) (fun _ _ _ h => h) (Or.inl ⟨rfl, ?h70⟩) ?r70
                    case h70 => intro w' hw'; go_simp; (try with_reducible rfl)
                    (try simp only [Act.put, List.setIfInBounds_toArray, List.set_cons_zero, List.set_cons_succ])
                    refine Draws.take 2 (v := ?v71) HS.out rfl (by kernel_rfl) (fun _ _ _ h => h) (Or.inl ⟨rfl, ?h71⟩) ?r71
                    case h71 => intro w' hw'; go_simp; (try with_reducible rfl)
                    (try simp only [Act.put, List.setIfInBounds_toArray, List.set_cons_zero, List.set_cons_succ])
                    refine Draws.take 3 (v := ?v72) HS.out rfl (by kernel_rfl) (fun _ _ _ h => h) (Or.inl ⟨rfl, ?h72⟩) ?r72
                    case h72 => intro w' hw'; go_simp; (try with_reducible rfl)
                    (try simp only [Act.put, List.setIfInBounds_toArray, List.set_cons_zero, List.set_cons_succ])
                    refine Draws.take 4 HS.out rfl (by kernel_rfl) (fun _ _ _ h => h) (yield_int (fun _ hu => (range5 (own_load hu.own HPL.out HPE.out)).1) _ rfl rfl rfl) ?_
                    (try simp only [Act.put, List.setIfInBounds_toArray, List.set_cons_zero, List.set_cons_succ])
                    refine Draws.take 5 (v := ?v73) HS.out rfl (by kernel_rfl) (fun _ _ _ h => h) (Or.inl ⟨rfl, ?h73⟩) ?r73
                    case h73 => intro w' hw'; go_simp; (try with_reducible rfl)
                    (try simp only [Act.put, List.setIfInBounds_toArray, List.set_cons_zero, List.set_cons_succ])
                    refine Draws.take 6 (v := ?v74) HS.out rfl (by kernel_rfl) (fun _ _ _ h => h) (Or.inl ⟨rfl, ?h74⟩) ?r74
                    case h74 => intro w' hw'; go_simp; (try with_reducible rfl)
                    (try simp only [Act.put, List.setIfInBounds_toArray, List.set_cons_zero, List.set_cons_succ])
                    refine Draws.take 7 (v := ?v75) HS.out rfl (by kernel_rfl) (fun _ _ _ h => h) (Or.inl ⟨rfl, ?h75⟩) ?r75
                    case h75 => intro w' hw'; go_simp; (try with_reducible rfl)
                    (try simp only [Act.put, List.setIfInBounds_toArray, List.set_cons_zero, List.set_cons_succ])
                    refine Draws.take 8 (v := ?v76) HS.out rfl (by kernel_rfl) (fun _ _ _ h => h) (Or.inl ⟨rfl, ?h76⟩) ?r76
                    case h76 => intro w' hw'; go_simp; (try with_reducible rfl)
                    (try simp only [Act.put, List.setIfInBounds_toArray, List.set_cons_zero, List.set_cons_succ])
                    refine Draws.take 9 HS.out rfl (by kernel_rfl) (fun _ _ _ h => h) (yield_int (fun _ hu => (range5 (range_below HR.out hu.keep.bel HC.out)).1) _ rfl rfl rfl) ?_
                    (try simp only [Act.put, List.setIfInBounds_toArray, List.set_cons_zero, List.set_cons_succ])
                    refine Draws.take 10 HS.out rfl (by kernel_rfl) (fun _ _ _ h => h) (yield_eql HQ1.out _ _ _ rfl rfl rfl rfl) ?_
                    (try simp only [Act.put, List.setIfInBounds_toArray, List.set_cons_zero, List.set_cons_succ])
                    refine Draws.take 11 (v := ?v77) HS.out rfl (by kernel_rfl) (fun _ _ _ h => h) (Or.inl ⟨rfl, ?h77⟩) ?r77
                    case h77 => intro w' hw'; go_simp; (try with_reducible rfl)
                    (try simp only [Act.put, List.setIfInBounds_toArray, List.set_cons_zero, List.set_cons_succ])
                    refine Draws.take 12 (v := ?v78) HS.out rfl (by kernel_rfl) (fun _ _ _ h => h) (Or.inl ⟨rfl, ?h78⟩) ?r78
                    case h78 => intro w' hw'; go_simp; (try with_reducible rfl)
                    (try simp only [Act.put, List.setIfInBounds_toArray, List.set_cons_zero, List.set_cons_succ])
                    refine Draws.take 13 (v := ?v79) HS.out rfl (by kernel_rfl) (fun _ _ _ h => h) (Or.inl ⟨rfl, ?h79⟩) ?r79
                    case h79 => intro w' hw'; go_simp; (try with_reducible rfl)
                    (try simp only [Act.put, List.setIfInBounds_toArray, List.set_cons_zero, List.set_cons_succ])
                    refine Draws.take 14 (v := ?v80) HS.out rfl (by kernel_rfl) (fun _ _ _ h => h) (Or.inl ⟨rfl, ?h80⟩) ?r80
                    case h80 => intro w' hw'; go_simp; (try with_reducible rfl)
                    (try simp only [Act.put, List.setIfInBounds_toArray, List.set_cons_zero, List.set_cons_succ])
                    refine Draws.take 15 (v := ?v81) HS.out rfl (by kernel_rfl) (fun _ _ _ h => h) (Or.inl ⟨rfl, ?h81⟩) ?r81
                    case h81 => intro w' hw'; go_simp; (try with_reducible rfl)
                    (try simp only [Act.put, List.setIfInBounds_toArray, List.set_cons_zero, List.set_cons_succ])
                    refine Draws.take 16 HS.out rfl (by kernel_rfl) (fun _ _ _ h => h) (yield_int (fun _ hu => (range5 (own_load hu.own HPL.out HPE.out)).2.1) _ rfl rfl rfl) ?_
                    (try simp only [Act.put, List.setIfInBounds_toArray, List.set_cons_zero, List.set_cons_succ])
                    refine Draws.take 17 (v := ?v82) HS.out rfl (by kernel_rfl) (fun _ _ _ h => h) (Or.inl ⟨rfl, ?h82⟩) ?r82
                    case h82 => intro w' hw'; go_simp; (try with_reducible rfl)
                    (try simp only [Act.put, List.setIfInBounds_toArray, List.set_cons_zero, List.set_cons_succ])
                    refine Draws.take 18 (v := ?v83) HS.out rfl (by kernel_rfl) (fun _ _ _ h => h) (Or.inl ⟨rfl, ?h83⟩) ?r83
                    case h83 => intro w' hw'; go_simp; (try with_reducible rfl)
                    (try simp only [Act.put, List.setIfInBounds_toArray, List.set_cons_zero, List.set_cons_succ])
                    refine Draws.take 19 (v := ?v84) HS.out rfl (by kernel_rfl) (fun _ _ _ h => h) (Or.inl ⟨rfl, ?h84⟩) ?r84
                    case h84 => intro w' hw'; go_simp; (try with_reducible rfl)
                    (try simp only [Act.put, List.setIfInBounds_toArray, List.set_cons_zero, List.set_cons_succ])
                    refine Draws.take 20 (v := ?v85) HS.out rfl (by kernel_rfl) (fun _ _ _ h => h) (Or.inl ⟨rfl, ?h85⟩) ?r85
                    case h85 => intro w' hw'; go_simp; (try with_reducible rfl)
                    (try simp only [Act.put, List.setIfInBounds_toArray, List.set_cons_zero, List.set_cons_succ])
                    refine Draws.take 21 HS.out rfl (by kernel_rfl) (fun _ _ _ h => h) (yield_int (fun _ hu => (range5 (range_below HR.out hu.keep.bel HC.out)).2.1) _ rfl rfl rfl) ?_
                    (try simp only [Act.put, List.setIfInBounds_toArray, List.set_cons_zero, List.set_cons_succ])
                    refine Draws.take 22 HS.out rfl (by kernel_rfl) (fun _ _ _ h => h) (yield_eql HQ2.out _ _ _ rfl rfl rfl rfl) ?_
                    (try simp only [Act.put, List.setIfInBounds_toArray, List.set_cons_zero, List.set_cons_succ])
                    refine Draws.take 23 (v := ?v86) HS.out rfl (by kernel_rfl) (fun _ _ _ h => h) (Or.inl ⟨rfl, ?h86⟩) ?r86
                    case h86 => intro w' hw'; go_simp; (try with_reducible rfl)
                    (try simp only [Act.put, List.setIfInBounds_toArray, List.set_cons_zero, List.set_cons_succ])
                    refine Draws.done (by kernel_rfl) ?_
                    clear HK
                    have HK := HS
                    clear HS
                    go_wp2
                    go_roundw
                    case rel => exact ⟨p + 1, by omega, by go_num, by rw [HT2.out], HK.out⟩
                    case measure => simp [intOf]; omega
              · obtain rfl : p = N := by omega
                rw [if_pos hjN]
                have i3 : (0 : Int) ≤ (j0 : Int) := by omega
                have i4 : (j0 : Int) < (p : Int) := by omega
                have i5 : ¬ (j0 : Int) < 0 := by omega
                obtain ⟨g, rfl⟩ := own_some HK.out.own (by have := HN.out; omega)
                by_cases ha : x.a = h.a
                · have HQ1 := Lib.hid (show (x.a != h.a) = false by simp [ha])
                  by_cases hd : x.d = h.d
                  · have HQ2 := Lib.hid (show (x.d != h.d) = false by simp [hd])
                    have HCL := Lib.hid (show clB xa h = false by rw [hcl]; simp [ha, hd])
                    clear hcl ha hd
                    go_wp2
                    refine Draws.start (S := fun u => KeepH w [] (.slice (some ⟨g, 0, none⟩) p c1) O u) (n := 24) 24 rfl (by kernel_rfl) ?_
                    have HS := Lib.hid (show (fun u => KeepH w [] (.slice (some ⟨g, 0, none⟩) p c1) O u) _ from HK.out.drew)
                    refine Draws.take 0 (v := ?v87) HS.out rfl (by kernel_rfl) (fun _ _ _ h => h) (Or.inl ⟨rfl, ?h87⟩) ?r87
                    case h87 => intro w' hw'; go_simp; (try with_reducible rfl)
                    (try simp only [Act.put, List.setIfInBounds_toArray, List.set_cons_zero, List.set_cons_succ])
                    refine Draws.take 1 (v := ?v88) HS.out rfl (by kernel_rfl) (fun _ _ _ h => h) (Or.inl ⟨rfl, ?h88⟩) ?r88
                    case h88 => intro w' hw'; go_simp; (try with_reducible rfl)
                    (try simp only [Act.put, List.setIfInBounds_toArray, List.set_cons_zero, List.set_cons_succ])
                    refine Draws.take 2 (v := ?v89) HS.out rfl (by kernel_rfl) (fun _ _ _ h => h) (Or.inl ⟨rfl, ?h89⟩) ?r89
                    case h89 => intro w' hw'; go_simp; (try with_reducible rfl)
                    (try simp only [Act.put, List.setIfInBounds_toArray, List.set_cons_zero, List.set_cons_succ])
                    refine Draws.take 3 (v := ?v90) HS.out rfl (by kernel_rfl) (fun _ _ _ h => h) (Or.inl ⟨rfl, ?h90⟩) ?r90
                    case h90 => intro w' hw'; go_simp; (try with_reducible rfl)
                    (try simp only [Act.put, List.setIfInBounds_toArray, List.set_cons_zero, List.set_cons_succ])
                    refine Draws.take 4 HS.out rfl (by kernel_rfl) (fun _ _ _ h => h) (yield_int (fun _ hu => (range5 (own_load hu.own HJL.out HJE.out)).2.2.1) _ rfl rfl rfl) ?_
                    (try simp only [Act.put, List.setIfInBounds_toArray, List.set_cons_zero, List.set_cons_succ])
                    refine Draws.take 5 (v := ?v91) HS.out rfl (by kernel_rfl) (fun _ _ _ h => h) (Or.inl ⟨rfl, ?h91⟩) ?r91
                    case h91 => intro w' hw'; go_simp; (try with_reducible rfl)
                    (try simp only [Act.put, List.setIfInBounds_toArray, List.set_cons_zero, List.set_cons_succ])
                    refine Draws.take 6 (v := ?v92) HS.out rfl (by kernel_rfl) (fun _ _ _ h => h) (Or.inl ⟨rfl, ?h92⟩) ?r92
                    case h92 => intro w' hw'; go_simp; (try with_reducible rfl)
                    (try simp only [Act.put, List.setIfInBounds_toArray, List.set_cons_zero, List.set_cons_succ])
                    refine Draws.take 7 (v := ?v93) HS.out rfl (by kernel_rfl) (fun _ _ _ h => h) (Or.inl ⟨rfl, ?h93⟩) ?r93
                    case h93 => intro w' hw'; go_simp; (try with_reducible rfl)
                    (try simp only [Act.put, List.setIfInBounds_toArray, List.set_cons_zero, List.set_cons_succ])
                    refine Draws.take 8 (v := ?v94) HS.out rfl (by kernel_rfl) (fun _ _ _ h => h) (Or.inl ⟨rfl, ?h94⟩) ?r94
                    case h94 => intro w' hw'; go_simp; (try with_reducible rfl)
                    (try simp only [Act.put, List.setIfInBounds_toArray, List.set_cons_zero, List.set_cons_succ])
                    refine Draws.take 9 HS.out rfl (by kernel_rfl) (fun _ _ _ h => h) (yield_int (fun _ hu => (range5 (range_below HR.out hu.keep.bel HC.out)).2.2.1) _ rfl rfl rfl) ?_
                    (try simp only [Act.put, List.setIfInBounds_toArray, List.set_cons_zero, List.set_cons_succ])
                    refine Draws.take 10 HS.out rfl (by kernel_rfl) (fun _ _ _ h => h) (yield_neq HQ1.out _ _ _ rfl rfl rfl rfl) ?_
                    (try simp only [Act.put, List.setIfInBounds_toArray, List.set_cons_zero, List.set_cons_succ])
                    refine Draws.take 11 (v := ?v95) HS.out rfl (by kernel_rfl) (fun _ _ _ h => h) (Or.inl ⟨rfl, ?h95⟩) ?r95
                    case h95 => intro w' hw'; go_simp; (try with_reducible rfl)
                    (try simp only [Act.put, List.setIfInBounds_toArray, List.set_cons_zero, List.set_cons_succ])
                    refine Draws.take 12 (v := ?v96) HS.out rfl (by kernel_rfl) (fun _ _ _ h => h) (Or.inl ⟨rfl, ?h96⟩) ?r96
                    case h96 => intro w' hw'; go_simp; (try with_reducible rfl)
                    (try simp only [Act.put, List.setIfInBounds_toArray, List.set_cons_zero, List.set_cons_succ])
                    refine Draws.take 13 (v := ?v97) HS.out rfl (by kernel_rfl) (fun _ _ _ h => h) (Or.inl ⟨rfl, ?h97⟩) ?r97
                    case h97 => intro w' hw'; go_simp; (try with_reducible rfl)
                    (try simp only [Act.put, List.setIfInBounds_toArray, List.set_cons_zero, List.set_cons_succ])
                    refine Draws.take 14 (v := ?v98) HS.out rfl (by kernel_rfl) (fun _ _ _ h => h) (Or.inl ⟨rfl, ?h98⟩) ?r98
                    case h98 => intro w' hw'; go_simp; (try with_reducible rfl)
                    (try simp only [Act.put, List.setIfInBounds_toArray, List.set_cons_zero, List.set_cons_succ])
                    refine Draws.take 15 (v := ?v99) HS.out rfl (by kernel_rfl) (fun _ _ _ h => h) (Or.inl ⟨rfl, ?h99⟩) ?r99
                    case h99 => intro w' hw'; go_simp; (try with_reducible rfl)
                    (try simp only [Act.put, List.setIfInBounds_toArray, List.set_cons_zero, List.set_cons_succ])
                    refine Draws.take 16 HS.out rfl (by kernel_rfl) (fun _ _ _ h => h) (yield_int (fun _ hu => (range5 (own_load hu.own HJL.out HJE.out)).2.2.2.1) _ rfl rfl rfl) ?_
                    (try simp only [Act.put, List.setIfInBounds_toArray, List.set_cons_zero, List.set_cons_succ])
                    refine Draws.take 17 (v := ?v100) HS.out rfl (by kernel_rfl) (fun _ _ _ h => h) (Or.inl ⟨rfl, ?h100⟩) ?r100
                    case h100 => intro w' hw'; go_simp; (try with_reducible rfl)
                    (try simp only [Act.put, List.setIfInBounds_toArray, List.set_cons_zero, List.set_cons_succ])
                    refine Draws.take 18 (v := ?v101) HS.out rfl (by kernel_rfl) (fun _ _ _ h => h) (Or.inl ⟨rfl, ?h101⟩) ?r101
                    case h101 => intro w' hw'; go_simp; (try with_reducible rfl)
                    (try simp only [Act.put, List.setIfInBounds_toArray, List.set_cons_zero, List.set_cons_succ])
                    refine Draws.take 19 (v := ?v102) HS.out rfl (by kernel_rfl) (fun _ _ _ h => h) (Or.inl ⟨rfl, ?h102⟩) ?r102
                    case h102 => intro w' hw'; go_simp; (try with_reducible rfl)
                    (try simp only [Act.put, List.setIfInBounds_toArray, List.set_cons_zero, List.set_cons_succ])
                    refine Draws.take 20 (v := ?v103) HS.out rfl (by kernel_rfl) (fun _ _ _ h => h) (Or.inl ⟨rfl, ?h103⟩) ?r103
                    case h103 => intro w' hw'; go_simp; (try with_reducible rfl)
                    (try simp only [Act.put, List.setIfInBounds_toArray, List.set_cons_zero, List.set_cons_succ])
                    refine Draws.take 21 HS.out rfl (by kernel_rfl) (fun _ _ _ h => h) (yield_int (fun _ hu => (range5 (range_below HR.out hu.keep.bel HC.out)).2.2.2.1) _ rfl rfl rfl) ?_
                    (try simp only [Act.put, List.setIfInBounds_toArray, List.set_cons_zero, List.set_cons_succ])
                    refine Draws.take 22 HS.out rfl (by kernel_rfl) (fun _ _ _ h => h) (yield_neq HQ2.out _ _ _ rfl rfl rfl rfl) ?_
                    (try simp only [Act.put, List.setIfInBounds_toArray, List.set_cons_zero, List.set_cons_succ])
                    refine Draws.take 23 (v := ?v104) HS.out rfl (by kernel_rfl) (fun _ _ _ h => h) (Or.inl ⟨rfl, ?h104⟩) ?r104
                    case h104 => intro w' hw'; go_simp; (try with_reducible rfl)
                    (try simp only [Act.put, List.setIfInBounds_toArray, List.set_cons_zero, List.set_cons_succ])
                    refine Draws.done (by kernel_rfl) ?_
                    clear HK
                    have HK := HS
                    clear HS
                    go_wp2
                    refine Draws.start (S := fun u => KeepH w [] (.slice (some ⟨g, 0, none⟩) p c1) O u) (n := 15) 16 rfl (by kernel_rfl) ?_
                    have HS := Lib.hid (show (fun u => KeepH w [] (.slice (some ⟨g, 0, none⟩) p c1) O u) _ from HK.out.drew)
                    clear HK
                    refine Draws.take 0 (v := ?v105) HS.out rfl (by kernel_rfl) (fun _ _ _ h => h) (Or.inl ⟨rfl, ?h105⟩) ?r105
                    case h105 => intro w' hw'; go_simp; (try with_reducible rfl)
                    (try simp only [Act.put, List.setIfInBounds_toArray, List.set_cons_zero, List.set_cons_succ])
                    refine Draws.take 1 (v := ?v106) HS.out rfl (by kernel_rfl) (fun _ _ _ h => h) (Or.inl ⟨rfl, ?h106⟩) ?r106
                    case h106 => intro w' hw'; go_simp; (try with_reducible rfl)
                    (try simp only [Act.put, List.setIfInBounds_toArray, List.set_cons_zero, List.set_cons_succ])
                    refine Draws.take 2 (v := ?v107) HS.out rfl (by kernel_rfl) (fun _ _ _ h => h) (Or.inl ⟨rfl, ?h107⟩) ?r107
                    case h107 => intro w' hw'; go_simp; (try with_reducible rfl)
                    (try simp only [Act.put, List.setIfInBounds_toArray, List.set_cons_zero, List.set_cons_succ])
                    refine Draws.take 3 (v := ?v108) HS.out rfl (by kernel_rfl) (fun _ _ _ h => h) (Or.inl ⟨rfl, ?h108⟩) ?r108
                    case h108 => intro w' hw'; go_simp; (try with_reducible rfl)
                    (try simp only [Act.put, List.setIfInBounds_toArray, List.set_cons_zero, List.set_cons_succ])
                    refine Draws.take 4 (v := ?v109) HS.out rfl (by kernel_rfl) (fun _ _ _ h => h) (Or.inl ⟨rfl, ?h109⟩) ?r109
                    case h109 => intro w' hw'; go_simp; (try with_reducible rfl)
                    (try simp only [Act.put, List.setIfInBounds_toArray, List.set_cons_zero, List.set_cons_succ])
                    refine Draws.take 5 (v := ?v110) HS.out rfl (by kernel_rfl) (fun _ _ _ h => h) (Or.inl ⟨rfl, ?h110⟩) ?r110
                    case h110 => intro w' hw'; go_simp; (try with_reducible rfl)
                    (try simp only [Act.put, List.setIfInBounds_toArray, List.set_cons_zero, List.set_cons_succ])
                    refine Draws.take 6 HS.out rfl (by kernel_rfl) (fun _ _ _ h => h) (yield_int (fun _ hu => (range5 (own_load hu.own HJL.out HJE.out)).2.2.2.2) _ rfl rfl rfl) ?_
                    (try simp only [Act.put, List.setIfInBounds_toArray, List.set_cons_zero, List.set_cons_succ])
                    refine Draws.take 7 (v := ?v111) HS.out rfl (by kernel_rfl) (fun _ _ _ h => h) (Or.inl ⟨rfl, ?h111⟩) ?r111
                    case h111 => intro w' hw'; go_simp; (try with_reducible rfl)
                    (try simp only [Act.put, List.setIfInBounds_toArray, List.set_cons_zero, List.set_cons_succ])
                    refine Draws.take 8 (v := ?v112) HS.out rfl (by kernel_rfl) (fun _ _ _ h => h) (Or.inl ⟨rfl, ?h112⟩) ?r112
                    case h112 => intro w' hw'; go_simp; (try with_reducible rfl)
                    (try simp only [Act.put, List.setIfInBounds_toArray, List.set_cons_zero, List.set_cons_succ])
                    refine Draws.take 9 (v := ?v113) HS.out rfl (by kernel_rfl) (fun _ _ _ h => h) (Or.inl ⟨rfl, ?h113⟩) ?r113
                    case h113 => intro w' hw'; go_simp; (try with_reducible rfl)
                    (try simp only [Act.put, List.setIfInBounds_toArray, List.set_cons_zero, List.set_cons_succ])
                    refine Draws.take 10 (v := ?v114) HS.out rfl (by kernel_rfl) (fun _ _ _ h => h) (Or.inl ⟨rfl, ?h114⟩) ?r114
                    case h114 => intro w' hw'; go_simp; (try with_reducible rfl)
                    (try simp only [Act.put, List.setIfInBounds_toArray, List.set_cons_zero, List.set_cons_succ])
                    refine Draws.take 11 HS.out rfl (by kernel_rfl) (fun _ _ _ h => h) (yield_int (fun _ hu => (range5 (range_below HR.out hu.keep.bel HC.out)).2.2.2.2) _ rfl rfl rfl) ?_
                    (try simp only [Act.put, List.setIfInBounds_toArray, List.set_cons_zero, List.set_cons_succ])
                    refine Draws.take 12 HS.out rfl (by kernel_rfl) (fun _ _ _ h => h) (yield_max _ _ rfl rfl rfl rfl) ?_
                    (try simp only [Act.put, List.setIfInBounds_toArray, List.set_cons_zero, List.set_cons_succ])
                    refine Draws.does 13 rfl (by kernel_rfl) rfl (fun K hK => ?_)
                    go_simp
                    refine hK.out _ _ (fun _ => HS.out) ?_
                    clear hK K
                    (try simp only [Act.put, List.setIfInBounds_toArray, List.set_cons_zero, List.set_cons_succ])
                    refine Draws.does 14 rfl (by kernel_rfl) rfl (fun K hK => ?_)
                    go_simp
                    refine hK.out _ _ (fun _ => HS.out) ?_
                    clear hK K
                    (try simp only [Act.put, List.setIfInBounds_toArray, List.set_cons_zero, List.set_cons_succ])
                    refine Draws.does 15 rfl (by kernel_rfl) rfl (fun K hK => ?_)
                    refine wp_store_state HS.out HJL.out rfl _ _ rfl rfl rfl rfl ?_
                    intro u hk
                    refine hK.out _ _ (fun h => absurd h (by omega)) ?_
                    clear hK K HS
                    have HK := Lib.hid hk
                    clear hk
                    (try simp only [Act.put, List.setIfInBounds_toArray, List.set_cons_zero, List.set_cons_succ])
                    refine Draws.done (by kernel_rfl) ?_
                    go_wp2
                    go_roundw
                    case rel => exact ⟨m + 1, by omega, by go_num, fun j hj => by
                      rcases Nat.lt_or_ge j m with h1 | h1
                      · exact HU.out j h1
                      · rw [show j = m by omega, HH.out]; exact HCL.out, by have hk := HK.out; rw [HJE.out] at hk; rw [← HNX.out]; exact hk⟩
                    case measure => simp [intOf]; omega
                  · have HQ2 := Lib.hid (show (x.d != h.d) = true by simp [hd])
                    obtain ⟨e1, e2⟩ := join_clash (a := xa) HMB.out (by rw [HH.out, hcl]; simp [ha, hd])
                    have HE1 := Lib.hid e1; have HE2 := Lib.hid e2
                    clear hcl ha hd e1 e2
                    go_wp2
                    refine Draws.start (S := fun u => KeepH w [] (.slice (some ⟨g, 0, none⟩) p c1) O u) (n := 24) 24 rfl (by kernel_rfl) ?_
                    have HS := Lib.hid (show (fun u => KeepH w [] (.slice (some ⟨g, 0, none⟩) p c1) O u) _ from HK.out.drew)
                    refine Draws.take 0 (v := ?v115) HS.out rfl (by kernel_rfl) (fun _ _ _ h => h) (Or.inl ⟨rfl, ?h115⟩) ?r115
                    case h115 => intro w' hw'; go_simp; (try with_reducible rfl)
                    (try simp only [Act.put, List.setIfInBounds_toArray, List.set_cons_zero, List.set_cons_succ])
                    refine Draws.take 1 (v := ?v116) HS.out rfl (by kernel_rfl) (fun _ _ _ h => h) (Or.inl ⟨rfl, ?h116⟩) ?r116
                    case h116 => intro w' hw'; go_simp; (try with_reducible rfl)
                    (try simp only [Act.put, List.setIfInBounds_toArray, List.set_cons_zero, List.set_cons_succ])
                    refine Draws.take 2 (v := ?v117) HS.out rfl (by kernel_rfl) (fun _ _ _ h => h) (Or.inl ⟨rfl, ?h117⟩) ?r117
                    case h117 => intro w' hw'; go_simp; (try with_reducible rfl)
                    (try simp only [Act.put, List.setIfInBounds_toArray, List.set_cons_zero, List.set_cons_succ])
                    refine Draws.take 3 (v := ?v118) HS.out rfl (by kernel_rfl) (fun _ _ _ h => h) (Or.inl ⟨rfl, ?h118⟩) ?r118
                    case h118 => intro w' hw'; go_simp; (try with_reducible rfl)
                    (try simp only [Act.put, List.setIfInBounds_toArray, List.set_cons_zero, List.set_cons_succ])
                    refine Draws.take 4 HS.out rfl (by kernel_rfl) (fun _ _ _ h => h) (yield_int (fun _ hu => (range5 (own_load hu.own HJL.out HJE.out)).2.2.1) _ rfl rfl rfl) ?_
                    (try simp only [Act.put, List.setIfInBounds_toArray, List.set_cons_zero, List.set_cons_succ])
                    refine Draws.take 5 (v := ?v119) HS.out rfl (by kernel_rfl) (fun _ _ _ h => h) (Or.inl ⟨rfl, ?h119⟩) ?r119
                    case h119 => intro w' hw'; go_simp; (try with_reducible rfl)
                    (try simp only [Act.put, List.setIfInBounds_toArray, List.set_cons_zero, List.set_cons_succ])
                    refine Draws.take 6 (v := ?v120) HS.out rfl (by kernel_rfl) (fun _ _ _ h => h) (Or.inl ⟨rfl, ?h120⟩) ?r120
                    case h120 => intro w' hw'; go_simp; (try with_reducible rfl)
                    (try simp only [Act.put, List.setIfInBounds_toArray, List.set_cons_zero, List.set_cons_succ])
                    refine Draws.take 7 (v := ?v121) HS.out rfl (by kernel_rfl) (fun _ _ _ h => h) (Or.inl ⟨rfl, ?h121⟩) ?r121
                    case h121 => intro w' hw'; go_simp; (try with_reducible rfl)
                    (try simp only [Act.put, List.setIfInBounds_toArray, List.set_cons_zero, List.set_cons_succ])
                    refine Draws.take 8 (v := ?v122) HS.out rfl (by kernel_rfl) (fun _ _ _ h => h) (Or.inl ⟨rfl, ?h122⟩) ?r122
                    case h122 => intro w' hw'; go_simp; (try with_reducible rfl)
                    (try simp only [Act.put, List.setIfInBounds_toArray, List.set_cons_zero, List.set_cons_succ])
                    refine Draws.take 9 HS.out rfl (by kernel_rfl) (fun _ _ _ h => h) (yield_int (fun _ hu => (range5 (range_below HR.out hu.keep.bel HC.out)).2.2.1) _ rfl rfl rfl) ?_
                    (try simp only [Act.put, List.setIfInBounds_toArray, List.set_cons_zero, List.set_cons_succ])
                    refine Draws.take 10 HS.out rfl (by kernel_rfl) (fun _ _ _ h => h) (yield_neq HQ1.out _ _ _ rfl rfl rfl rfl) ?_
                    (try simp only [Act.put, List.setIfInBounds_toArray, List.set_cons_zero, List.set_cons_succ])
                    refine Draws.take 11 (v := ?v123) HS.out rfl (by kernel_rfl) (fun _ _ _ h => h) (Or.inl ⟨rfl, ?h123⟩) ?r123
                    case h123 => intro w' hw'; go_simp; (try with_reducible rfl)
                    (try simp only [Act.put, List.setIfInBounds_toArray, List.set_cons_zero, List.set_cons_succ])
                    refine Draws.take 12 (v := ?v124) HS.out rfl (by kernel_rfl) (fun _ _ _ h => h) (Or.inl ⟨rfl, ?h124⟩) ?r124
                    case h124 => intro w' hw'; go_simp; (try with_reducible rfl)
                    (try simp only [Act.put, List.setIfInBounds_toArray, List.set_cons_zero, List.set_cons_succ])
                    refine Draws.take 13 (v := ?v125) HS.out rfl (by kernel_rfl) (fun _ _ _ h => h) (Or.inl ⟨rfl, ?h125⟩) ?r125
                    case h125 => intro w' hw'; go_simp; (try with_reducible rfl)
                    (try simp only [Act.put, List.setIfInBounds_toArray, List.set_cons_zero, List.set_cons_succ])
                    refine Draws.take 14 (v := ?v126) HS.out rfl (by kernel_rfl) (fun _ _ _ h => h) (Or.inl ⟨rfl, ?h126⟩) ?r126
                    case h126 => intro w' hw'; go_simp; (try with_reducible rfl)
                    (try simp only [Act.put, List.setIfInBounds_toArray, List.set_cons_zero, List.set_cons_succ])
                    refine Draws.take 15 (v := ?v127) HS.out rfl (by kernel_rfl) (fun _ _ _ h => h) (Or.inl ⟨rfl, ?h127⟩) ?r127
                    case h127 => intro w' hw'; go_simp; (try with_reducible rfl)
                    (try simp only [Act.put, List.setIfInBounds_toArray, List.set_cons_zero, List.set_cons_succ])
                    refine Draws.take 16 HS.out rfl (by kernel_rfl) (fun _ _ _ h => h) (yield_int (fun _ hu => (range5 (own_load hu.own HJL.out HJE.out)).2.2.2.1) _ rfl rfl rfl) ?_
                    (try simp only [Act.put, List.setIfInBounds_toArray, List.set_cons_zero, List.set_cons_succ])
                    refine Draws.take 17 (v := ?v128) HS.out rfl (by kernel_rfl) (fun _ _ _ h => h) (Or.inl ⟨rfl, ?h128⟩) ?r128
                    case h128 => intro w' hw'; go_simp; (try with_reducible rfl)
                    (try simp only [Act.put, List.setIfInBounds_toArray, List.set_cons_zero, List.set_cons_succ])
                    refine Draws.take 18 (v := ?v129) HS.out rfl (by kernel_rfl) (fun _ _ _ h => h) (Or.inl ⟨rfl, ?h129⟩) ?r129
                    case h129 => intro w' hw'; go_simp; (try with_reducible rfl)
                    (try simp only [Act.put, List.setIfInBounds_toArray, List.set_cons_zero, List.set_cons_succ])
                    refine Draws.take 19 (v := ?v130) HS.out rfl (by kernel_rfl) (fun _ _ _ h => h) (Or.inl ⟨rfl, ?h130⟩) ?r130
                    case h130 => intro w' hw'; go_simp; (try with_reducible rfl)
                    (try simp only [Act.put, List.setIfInBounds_toArray, List.set_cons_zero, List.set_cons_succ])
                    refine Draws.take 20 (v := ?v131) HS.out rfl (by kernel_rfl) (fun _ _ _ h => h) (Or.inl ⟨rfl, ?h131⟩) ?r131
                    case h131 => intro w' hw'; go_simp; (try with_reducible rfl)
                    (try simp only [Act.put, List.setIfInBounds_toArray, List.set_cons_zero, List.set_cons_succ])
                    refine Draws.take 21 HS.out rfl (by kernel_rfl) (fun _ _ _ h => h) (yield_int (fun _ hu => (range5 (range_below HR.out hu.keep.bel HC.out)).2.2.2.1) _ rfl rfl rfl) ?_
                    (try simp only [Act.put, List.setIfInBounds_toArray, List.set_cons_zero, List.set_cons_succ])
                    refine Draws.take 22 HS.out rfl (by kernel_rfl) (fun _ _ _ h => h) (yield_neq HQ2.out _ _ _ rfl rfl rfl rfl) ?_
                    (try simp only [Act.put, List.setIfInBounds_toArray, List.set_cons_zero, List.set_cons_succ])
                    refine Draws.take 23 (v := ?v132) HS.out rfl (by kernel_rfl) (fun _ _ _ h => h) (Or.inl ⟨rfl, ?h132⟩) ?r132
                    case h132 => intro w' hw'; go_simp; (try with_reducible rfl)
                    (try simp only [Act.put, List.setIfInBounds_toArray, List.set_cons_zero, List.set_cons_succ])
                    refine Draws.done (by kernel_rfl) ?_
                    clear HK
                    have HK := HS
                    clear HS
                    go_wp2
                    go_ret2
                    exact ⟨.slice none 0 0, by rw [HE1.out]; rfl, by rw [HE2.out]; exact Own.nil _ _, HK.out.keep.bel⟩
                · have HQ1 := Lib.hid (show (x.a != h.a) = true by simp [ha])
                  obtain ⟨e1, e2⟩ := join_clash (a := xa) HMB.out (by rw [HH.out, hcl]; simp [ha])
                  have HE1 := Lib.hid e1; have HE2 := Lib.hid e2
                  clear hcl ha e1 e2
                  go_wp2
                  refine Draws.start (S := fun u => KeepH w [] (.slice (some ⟨g, 0, none⟩) p c1) O u) (n := 24) 24 rfl (by kernel_rfl) ?_
                  have HS := Lib.hid (show (fun u => KeepH w [] (.slice (some ⟨g, 0, none⟩) p c1) O u) _ from HK.out.drew)
                  refine Draws.take 0 (v := ?v133) HS.out rfl (by kernel_rfl) (fun _ _ _ h => h) (Or.inl ⟨rfl, ?h133⟩) ?r133
                  case h133 => intro w' hw'; go_simp; (try with_reducible rfl)
                  (try simp only [Act.put, List.setIfInBounds_toArray, List.set_cons_zero, List.set_cons_succ])
                  refine Draws.take 1 (v := ?v134) HS.out rfl (by kernel_rfl) (fun _ _ _ h => h) (Or.inl ⟨rfl, ?h134⟩) ?r134
                  case h134 => intro w' hw'; go_simp; (try with_reducible rfl)
                  (try simp only [Act.put, List.setIfInBounds_toArray, List.set_cons_zero, List.set_cons_succ])
                  refine Draws.take 2 (v := ?v135) HS.out rfl (by kernel_rfl) (fun _ _ _ h => h) (Or.inl ⟨rfl, ?h135⟩) ?r135
                  case h135 => intro w' hw'; go_simp; (try with_reducible rfl)
                  (try simp only [Act.put, List.setIfInBounds_toArray, List.set_cons_zero, List.set_cons_succ])
                  refine Draws.take 3 (v := ?v136) HS.out rfl (by kernel_rfl) (fun _ _ _ h => h) (Or.inl ⟨rfl, ?h136⟩) ?r136
                  case h136 => intro w' hw'; go_simp; (try with_reducible rfl)
                  (try simp only [Act.put, List.setIfInBounds_toArray, List.set_cons_zero, List.set_cons_succ])
                  refine Draws.take 4 HS.out rfl (by kernel_rfl) (fun _ _ _ h => h) (yield_int (fun _ hu => (range5 (own_load hu.own HJL.out HJE.out)).2.2.1) _ rfl rfl rfl) ?_
                  (try simp only [Act.put, List.setIfInBounds_toArray, List.set_cons_zero, List.set_cons_succ])
                  refine Draws.take 5 (v := ?v137) HS.out rfl (by kernel_rfl) (fun _ _ _ h => h) (Or.inl ⟨rfl, ?h137⟩) ?r137
                  case h137 => intro w' hw'; go_simp; (try with_reducible rfl)
                  (try simp only [Act.put, List.setIfInBounds_toArray, List.set_cons_zero, List.set_cons_succ])
                  refine Draws.take 6 (v := ?v138) HS.out rfl (by kernel_rfl) (fun _ _ _ h => h) (Or.inl ⟨rfl, ?h138⟩) ?r138
                  case h138 => intro w' hw'; go_simp; (try with_reducible rfl)
                  (try simp only [Act.put, List.setIfInBounds_toArray, List.set_cons_zero, List.set_cons_succ])
                  refine Draws.take 7 (v := ?v139) HS.out rfl (by kernel_rfl) (fun _ _ _ h => h) (Or.inl ⟨rfl, ?h139⟩) ?r139
                  case h139 => intro w' hw'; go_simp; (try with_reducible rfl)
                  (try simp only [Act.put, List.setIfInBounds_toArray, List.set_cons_zero, List.set_cons_succ])
                  refine Draws.take 8 (v := ?v140) HS.out rfl (by kernel_rfl) (fun _ _ _ h => h) (Or.inl ⟨rfl, ?h140⟩) ?r140
                  case h140 => intro w' hw'; go_simp; (try with_reducible rfl)
                  (try simp only [Act.put, List.setIfInBounds_toArray, List.set_cons_zero, List.set_cons_succ])
                  refine Draws.take 9 HS.out rfl (by kernel_rfl) (fun _ _ _ h => h) (yield_int (fun _ hu => (range5 (range_below HR.out hu.keep.bel HC.out)).2.2.1) _ rfl rfl rfl) ?_
                  (try simp only [Act.put, List.setIfInBounds_toArray, List.set_cons_zero, List.set_cons_succ])
                  refine Draws.take 10 HS.out rfl (by kernel_rfl) (fun _ _ _ h => h) (yield_neq HQ1.out _ _ _ rfl rfl rfl rfl) ?_
                  (try simp only [Act.put, List.setIfInBounds_toArray, List.set_cons_zero, List.set_cons_succ])
                  refine Draws.take 11 (v := ?v141) HS.out rfl (by kernel_rfl) (fun _ _ _ h => h) (Or.inl ⟨rfl, ?h141⟩) ?r141
                  case h141 => intro w' hw'; go_simp; (try with_reducible rfl)
                  (try simp only [Act.put, List.setIfInBounds_toArray, List.set_cons_zero, List.set_cons_succ])
                  refine Draws.take 12 HS.out rfl (by kernel_rfl) (fun _ _ _ h => h) (Or.inr ⟨rfl, rfl⟩) ?_
                  (try simp only [Act.put, List.setIfInBounds_toArray, List.set_cons_zero, List.set_cons_succ])
                  refine Draws.take 13 HS.out rfl (by kernel_rfl) (fun _ _ _ h => h) (Or.inr ⟨rfl, rfl⟩) ?_
                  (try simp only [Act.put, List.setIfInBounds_toArray, List.set_cons_zero, List.set_cons_succ])
                  refine Draws.take 14 HS.out rfl (by kernel_rfl) (fun _ _ _ h => h) (Or.inr ⟨rfl, rfl⟩) ?_
                  (try simp only [Act.put, List.setIfInBounds_toArray, List.set_cons_zero, List.set_cons_succ])
                  refine Draws.take 15 HS.out rfl (by kernel_rfl) (fun _ _ _ h => h) (Or.inr ⟨rfl, rfl⟩) ?_
                  (try simp only [Act.put, List.setIfInBounds_toArray, List.set_cons_zero, List.set_cons_succ])
                  refine Draws.take 16 HS.out rfl (by kernel_rfl) (fun _ _ _ h => h) (Or.inr ⟨rfl, rfl⟩) ?_
                  (try simp only [Act.put, List.setIfInBounds_toArray, List.set_cons_zero, List.set_cons_succ])
                  refine Draws.take 17 HS.out rfl (by kernel_rfl) (fun _ _ _ h => h) (Or.inr ⟨rfl, rfl⟩) ?_
                  (try simp only [Act.put, List.setIfInBounds_toArray, List.set_cons_zero, List.set_cons_succ])
                  refine Draws.take 18 HS.out rfl (by kernel_rfl) (fun _ _ _ h => h) (Or.inr ⟨rfl, rfl⟩) ?_
                  (try simp only [Act.put, List.setIfInBounds_toArray, List.set_cons_zero, List.set_cons_succ])
                  refine Draws.take 19 HS.out rfl (by kernel_rfl) (fun _ _ _ h => h) (Or.inr ⟨rfl, rfl⟩) ?_
                  (try simp only [Act.put, List.setIfInBounds_toArray, List.set_cons_zero, List.set_cons_succ])
                  refine Draws.take 20 HS.out rfl (by kernel_rfl) (fun _ _ _ h => h) (Or.inr ⟨rfl, rfl⟩) ?_
                  (try simp only [Act.put, List.setIfInBounds_toArray, List.set_cons_zero, List.set_cons_succ])
                  refine Draws.take 21 HS.out rfl (by kernel_rfl) (fun _ _ _ h => h) (Or.inr ⟨rfl, rfl⟩) ?_
                  (try simp only [Act.put, List.setIfInBounds_toArray, List.set_cons_zero, List.set_cons_succ])
                  refine Draws.take 22 HS.out rfl (by kernel_rfl) (fun _ _ _ h => h) (Or.inr ⟨rfl, rfl⟩) ?_
                  (try simp only [Act.put, List.setIfInBounds_toArray, List.set_cons_zero, List.set_cons_succ])
                  refine Draws.take 23 (v := ?v142) HS.out rfl (by kernel_rfl) (fun _ _ _ h => h) (Or.inl ⟨rfl, ?h142⟩) ?r142
                  case h142 => intro w' hw'; go_simp; (try with_reducible rfl)
                  (try simp only [Act.put, List.setIfInBounds_toArray, List.set_cons_zero, List.set_cons_succ])
                  refine Draws.done (by kernel_rfl) ?_
                  clear HK
                  have HK := HS
                  clear HS
                  go_wp2
                  go_ret2
                  exact ⟨.slice none 0 0, by rw [HE1.out]; rfl, by rw [HE2.out]; exact Own.nil _ _, HK.out.keep.bel⟩
        · obtain rfl : m = nb := by omega
          have htk : xb.take m = xb := by rw [← HLB.out]; exact List.take_length
          rw [htk] at HK hlen hpl
          have hall : ∀ j, j < xb.length → clB xa (xb.getD j z5) = false := by rw [HLB.out]; exact HU.out
          obtain ⟨N, hN⟩ : ∃ N, (isort (jraw xa xb)).length = N := ⟨_, rfl⟩
          obtain ⟨A1, c1, hv, _⟩ := own_len HK.out.own hN
          subst hv
          by_cases h16 : 16 < N
          · obtain ⟨e1, e2⟩ := join_full HAB.out hall (by omega)
            have HE1 := Lib.hid e1; have HE2 := Lib.hid e2
            have hi : (16 : Int) < (N : Int) := by omega
            clear e1 e2 hall hN hlen hpl htl htk h16
            go_wp2
            go_ret2
            exact ⟨.slice none 0 0, by rw [HE1.out]; rfl, by rw [HE2.out]; exact Own.nil _ _, HK.out.keep.bel⟩
          · obtain ⟨e1, e2⟩ := join_good HAB.out hall (by omega)
            have HE1 := Lib.hid e1; have HE2 := Lib.hid e2
            have hi : ¬ (16 : Int) < (N : Int) := by omega
            clear e1 e2 hall hN hlen hpl htl htk h16
            go_wp2
            go_ret2
            exact ⟨_, by rw [HE1.out]; rfl, by rw [HE2.out]; exact HK.out.own, HK.out.keep.bel⟩

end Go.Proofs.YtofngihdnjgmeaaGreat
