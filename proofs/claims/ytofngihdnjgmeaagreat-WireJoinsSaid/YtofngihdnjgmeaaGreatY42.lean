/- Contracts of the document's joins of vectors, rights, counters and locks. -/
import Derived.Test.YtofngihdnjgmeaaGreatY01
import Derived.Test.YtofngihdnjgmeaaGreatY03
import Derived.Test.YtofngihdnjgmeaaGreatY09
import Derived.Test.YtofngihdnjgmeaaGreatY11
import Derived.Test.YtofngihdnjgmeaaGreatY12
import Derived.Test.YtofngihdnjgmeaaGreatY40
import Derived.WalkMore
import Derived.WalkKit
import Derived.ProofKit
import Derived.Lib.Hide
import Derived.Below
import Derived.Deep.MidRow
import Derived.Deep.RegionHeld3
import Derived.Deep.QuietTactic
import Derived.BigQuiet
import Derived.OpenShut
import Derived.ChangeOld
import Derived.Maps.AppendAt
import Derived.OwnWalk
import Derived.Laws.OwnMore
import Derived.Laws.StructEq
import Derived.LoopTactic
import Derived.Defers
import Derived.Recover
import Derived.WalkSmall
import Derived.Lib.AppendZeros
import Derived.Deep.OwnRows
namespace Go.Proofs.YtofngihdnjgmeaaGreat
set_option maxRecDepth 100000
open Go.ChangeShapes Go.WideShapes Go.ChangeAt Go.RowKit

theorem rjoin_any (xs ys : List Int) (hx : xs.length = 16) (hy : ys.length = 16) (w : World) :
    Calls Tryz.prog 122 #[.agg (vals xs).toArray, .agg (vals ys).toArray] w fun e w' => e = .returned (.agg (vals (joinL xs ys)).toArray) ∧ Below w.heap.size w w' := by
  have HJ := Lib.hid (joinL_length hx hy)
  have HX := Lib.hid hx; clear hx
  have HY := Lib.hid hy; clear hy
  have h1 := boxes_more (n := w.heap.size + 1 + 1) (by simp) (boxes w 23 xs ys) zeros
  have h2 := boxes_more (n := w.heap.size + 1 + 1 + 1) (by simp) h1.1 zeros
  have H0 := Lib.hid (And.intro h2 (h1.2.alloc (.cells (vals zeros).toArray 23)))
  clear h1 h2
  go_enter Tryz.func122, Tryz.ntmps122
  go_wp2
  go_loopw [6] (fun i wr => ∃ k : Nat, k ≤ 16 ∧ i = .int .i64 k ∧ Blk wr w.heap.size 23 xs ∧ Blk wr (w.heap.size + 1) 23 ys ∧ Blk wr (w.heap.size + 1 + 1) 23 zeros ∧ Blk wr (w.heap.size + 1 + 1 + 1) 23 (mix k (joinL xs ys) zeros) ∧ Below w.heap.size w wr) (fun i _ => 16 - (intOf i).toNat)
  case atStart => exact ⟨0, by omega, rfl, H0.out.1.1.1, H0.out.1.1.2.1, H0.out.2, (mix_zero _ _).symm ▸ H0.out.1.2, H0.out.1.1.2.2⟩
  case round =>
    obtain ⟨k, hk, rfl, hA, hB, hZ, hM, hS⟩ := hrel
    have HA := Lib.hid hA; have HB := Lib.hid hB; have HZ := Lib.hid hZ; have HM := Lib.hid hM; have HS := Lib.hid hS
    clear hA hB hZ hM hS H0
    by_cases hlt : k < 16
    · have c1 := HA.out.cell (k := k) (by have := HX.out; omega)
      have c2 := HB.out.cell (k := k) (by have := HY.out; omega)
      have c3 := HM.out.cell (k := k) (by rw [mix_length (by rw [HJ.out, zeros_length]), zeros_length]; omega)
      have f3 := HM.out.frozen k
      have hj := joinL_get (xs := xs) (ys := ys) (k := k) (by have := HX.out; omega) (by have := HY.out; omega)
      have hm := mix_set (zs := joinL xs ys) (xs := zeros) (k := k) (by rw [HJ.out, zeros_length]) (by rw [zeros_length]; omega)
      rw [hj] at hm
      generalize hx : xs.getD k 0 = x at c1 hm
      generalize hy : ys.getD k 0 = y at c2 hm
      generalize (mix k (joinL xs ys) zeros).getD k 0 = z at c3
      clear hx hy hj
      have Hm := Lib.hid hm; clear hm
      have i1 : (0 : Int) ≤ (k : Int) := by omega
      have i2 : (k : Int) < 16 := by omega
      by_cases hxy : x < y
      · go_wp2
        go_quiet (fail)
        go_wp2
        go_roundw
        case rel =>
          refine ⟨k + 1, by omega, by go_num, ((HA.out.apart _ _ (by simp; omega)).drewN _).apart _ _ (by simp; omega), ((HB.out.apart _ _ (by simp)).drewN _).apart _ _ (by simp), ((HZ.out.apart _ _ (by simp)).drewN _).apart _ _ (by simp), ?_, (below_drewN (HS.out.setCell (by simp; omega) _) _).setCell (by simp; omega) _⟩
          have := ((HM.out.setCell k x).drewN nq).setCell k y
          rw [List.set_set, show y = max x y by omega, Hm.out] at this
          rwa [show max x y = y by omega] at this
        case measure => simp [intOf]; omega
      · go_wp2
        go_quiet (fail)
        go_wp2
        go_roundw
        case rel =>
          refine ⟨k + 1, by omega, by go_num, (HA.out.apart _ _ (by simp; omega)).drewN _, (HB.out.apart _ _ (by simp)).drewN _, (HZ.out.apart _ _ (by simp)).drewN _, ?_, below_drewN (HS.out.setCell (by simp; omega) _) _⟩
          have := (HM.out.setCell k x).drewN nq
          rw [show x = max x y by omega, Hm.out] at this
          rwa [show max x y = x by omega] at this
        case measure => simp [intOf]; omega
    · have hM := HM.out
      rw [mix_all (by rw [HJ.out, zeros_length]) (by rw [zeros_length]; omega)] at hM
      have HM := Lib.hid hM; clear hM
      go_wp2_with (first
        | (with_reducible refine wpList_load_vec rfl _ rfl _ rfl _ HM.out HJ.out ?_)
        | (with_reducible refine wpList_store_vec rfl _ _ rfl _ _ rfl rfl _ HZ.out zeros_length HJ.out ?_))
      exact bodyPost_ret (results_vec rfl _ _ _ _ rfl (HZ.out.setRow _) HJ.out) rfl ⟨rfl, below_setRow HS.out (by omega) _⟩
set_option maxHeartbeats 2000000 in
theorem rjoin_r (R T : List Int) (hR : R.length = 288) (hT : T.length = 288) (w : World) :
    Calls Tryz.prog 91 #[.agg (vals R).toArray, .agg (vals T).toArray] w fun e w' => e = .returned (.agg (vals (joinL R T)).toArray) ∧ Below w.heap.size w w' := by
  have HJ := Lib.hid (joinL_len hR hT)
  have H2 := Lib.hid (two_joins hR hT)
  have HST := Lib.hid (fun m (hm : m + 16 ≤ 288) => rjoin_step hR hT (m := m) hm)
  have HML := Lib.hid (fun m => mix_length (zs := joinL R T) (xs := zer 288) (by rw [joinL_len hR hT, zer_length]) m)
  have HR0 := Lib.hid (seg_length (R := R) (o := 0) (n := 16) (by omega))
  have HR1 := Lib.hid (seg_length (R := R) (o := 16) (n := 16) (by omega))
  have HT0 := Lib.hid (seg_length (R := T) (o := 0) (n := 16) (by omega))
  have HT1 := Lib.hid (seg_length (R := T) (o := 16) (n := 16) (by omega))
  have HJ0 := Lib.hid (joinL_len (n := 16) HR0.out HT0.out)
  have HJ1 := Lib.hid (joinL_len (n := 16) HR1.out HT1.out)
  have HR := Lib.hid hR; clear hR
  have HT := Lib.hid hT; clear hT
  have HK := Lib.hid (KeepR.start w)
  go_enter Tryz.func91, Tryz.ntmps91
  go_wp2_with (first
    | (with_reducible refine box_new (R := R) HK.out rfl _ rfl rfl ?_; intro bR u hk hb; clear hb; clear HK; have HK := Lib.hid hk; clear hk)
    | (with_reducible refine box_new (R := T) HK.out rfl _ rfl rfl ?_; intro bT u hk hb; clear hb; clear HK; have HK := Lib.hid hk; clear hk)
    | (with_reducible refine alloc_zero HK.out 288 r_zero rfl rfl ?_; intro bZ u hn hk hb; clear hn hb; clear HK; have HK := Lib.hid hk; clear hk))
  refine region_via (fun a' u => ∃ b5 : Nat, a' = ⟨#[.agg (vals (R)).toArray, .agg (vals (T)).toArray, .pointer (some ⟨bR, 0, none⟩), .pointer (some ⟨bT, 0, none⟩), .pointer (some ⟨bZ, 0, none⟩), .pointer (some ⟨b5, 0, none⟩), undef, .pointer (some ⟨bR, 0, none⟩), .agg (vals (seg R 0 16)).toArray, .pointer (some ⟨bT, 0, none⟩), .agg (vals (seg T 0 16)).toArray, .agg (vals (joinL (seg R 0 16) (seg T 0 16))).toArray, .pointer (some ⟨bR, 16, none⟩), .agg (vals (seg R 16 16)).toArray, .pointer (some ⟨bT, 16, none⟩), .agg (vals (seg T 16 16)).toArray, .agg (vals (joinL (seg R 16 16) (seg T 16 16))).toArray, .agg (vals (splice (splice (zer 288) 0 (joinL (seg R 0 16) (seg T 0 16))) 16 (joinL (seg R 16 16) (seg T 16 16)))).toArray, undef, undef, undef, undef, undef, undef, undef, undef, undef, undef, undef, undef, undef, undef, undef, undef, undef], []⟩ ∧ KeepR w [(b5, 26, mix 32 (joinL R T) (zer 288)), (bZ, 26, zer 288), (bT, 26, T), (bR, 26, R)] u) ?_ ?_
  · skip
    refine Draws.start (S := fun u => KeepR w [(bZ, 26, zer 288), (bT, 26, T), (bR, 26, R)] u) (n := 12) 13 rfl (by kernel_rfl) ?_
    have HS := Lib.hid ((HK.out.drew : (fun u => KeepR w [(bZ, 26, zer 288), (bT, 26, T), (bR, 26, R)] u) _))
    refine Draws.take 0 (v := ?v1) HS.out rfl (by kernel_rfl) (fun _ _ _ h => absurd h.1 (by simp)) (Or.inl ⟨rfl, ?h1⟩) ?r1
    case h1 => intro w' hw'; go_simp; (try with_reducible rfl)
    (try simp only [Act.put, List.setIfInBounds_toArray, List.set_cons_zero, List.set_cons_succ])
    refine Draws.take 1 HS.out rfl (by kernel_rfl) (fun _ _ _ h => absurd h.1 (by simp)) (yield_part (fun _ h => h) 2 16 Tryz.underlying23 rfl vec_info rfl _ rfl rfl rfl (by have := HR.out; omega)) ?_
    (try simp only [Act.put, List.setIfInBounds_toArray, List.set_cons_zero, List.set_cons_succ])
    refine Draws.take 2 (v := ?v2) HS.out rfl (by kernel_rfl) (fun _ _ _ h => absurd h.1 (by simp)) (Or.inl ⟨rfl, ?h2⟩) ?r2
    case h2 => intro w' hw'; go_simp; (try with_reducible rfl)
    (try simp only [Act.put, List.setIfInBounds_toArray, List.set_cons_zero, List.set_cons_succ])
    refine Draws.take 3 HS.out rfl (by kernel_rfl) (fun _ _ _ h => absurd h.1 (by simp)) (yield_part (fun _ h => h) 1 16 Tryz.underlying23 rfl vec_info rfl _ rfl rfl rfl (by have := HT.out; omega)) ?_
    (try simp only [Act.put, List.setIfInBounds_toArray, List.set_cons_zero, List.set_cons_succ])
    refine Draws.take 5 (v := ?v3) HS.out rfl (by kernel_rfl) (fun _ _ _ h => absurd h.1 (by simp)) (Or.inl ⟨rfl, ?h3⟩) ?r3
    case h3 => intro w' hw'; go_simp; (try with_reducible rfl)
    (try simp only [Act.put, List.setIfInBounds_toArray, List.set_cons_zero, List.set_cons_succ])
    refine Draws.take 6 HS.out rfl (by kernel_rfl) (fun _ _ _ h => absurd h.1 (by simp)) (yield_part (fun _ h => h) 2 16 Tryz.underlying23 rfl vec_info rfl _ rfl rfl rfl (by have := HR.out; omega)) ?_
    (try simp only [Act.put, List.setIfInBounds_toArray, List.set_cons_zero, List.set_cons_succ])
    refine Draws.take 7 (v := ?v4) HS.out rfl (by kernel_rfl) (fun _ _ _ h => absurd h.1 (by simp)) (Or.inl ⟨rfl, ?h4⟩) ?r4
    case h4 => intro w' hw'; go_simp; (try with_reducible rfl)
    (try simp only [Act.put, List.setIfInBounds_toArray, List.set_cons_zero, List.set_cons_succ])
    refine Draws.take 8 HS.out rfl (by kernel_rfl) (fun _ _ _ h => absurd h.1 (by simp)) (yield_part (fun _ h => h) 1 16 Tryz.underlying23 rfl vec_info rfl _ rfl rfl rfl (by have := HT.out; omega)) ?_
    (try simp only [Act.put, List.setIfInBounds_toArray, List.set_cons_zero, List.set_cons_succ])
    refine Draws.either 4 11 rfl rfl (by kernel_rfl) rfl rfl (fun K hK => ?_) (fun K hK => ?_)
    · skip
      go_simp
      go_at_call 122
      refine (rjoin_any (seg R 0 16) (seg T 0 16) HR0.out HT0.out _).mono ?_
      rintro e u ⟨rfl, hb⟩
      (try dsimp only)
      refine hK.out _ _ (fun _ => HS.out.call hb) ?_
      clear hK K
      have hs : (fun u => KeepR w [(bZ, 26, zer 288), (bT, 26, T), (bR, 26, R)] u) u := HS.out.call hb
      clear HS
      have HS := Lib.hid hs; clear hs
      (try simp only [Act.put, List.setIfInBounds_toArray, List.set_cons_zero, List.set_cons_succ])
      clear hb
      refine Draws.either 9 11 rfl rfl (by kernel_rfl) rfl rfl (fun K hK => ?_) (fun K hK => ?_)
      · skip
        go_simp
        go_at_call 122
        refine (rjoin_any (seg R 16 16) (seg T 16 16) HR1.out HT1.out _).mono ?_
        rintro e u ⟨rfl, hb⟩
        (try dsimp only)
        refine hK.out _ _ (fun _ => HS.out.call hb) ?_
        clear hK K
        have hs : (fun u => KeepR w [(bZ, 26, zer 288), (bT, 26, T), (bR, 26, R)] u) u := HS.out.call hb
        clear HS
        have HS := Lib.hid hs; clear hs
        (try simp only [Act.put, List.setIfInBounds_toArray, List.set_cons_zero, List.set_cons_succ])
        clear hb
        refine Draws.take 10 HS.out rfl (by kernel_rfl) (fun _ _ _ h => absurd h.1 (by simp)) (yield_build_r rfl _ _ rfl rfl rfl HJ0.out HJ1.out) ?_
        (try simp only [Act.put, List.setIfInBounds_toArray, List.set_cons_zero, List.set_cons_succ])
        refine Draws.does 11 rfl (by kernel_rfl) rfl (fun K hK => ?_)
        refine wp_alloc_zero HS.out 288 r_zero rfl ?_
        intro b5 u hx hb
        have HX := Lib.hid hx; clear hx
        refine hK.out _ _ (fun _ => HS.out.call hb) ?_
        clear hK K
        have hs : (fun u => KeepR w [(bZ, 26, zer 288), (bT, 26, T), (bR, 26, R)] u) u := HS.out.call hb
        clear HS
        have HS := Lib.hid hs; clear hs
        (try simp only [Act.put, List.setIfInBounds_toArray, List.set_cons_zero, List.set_cons_succ])
        clear hb
        refine Draws.does 12 rfl (by kernel_rfl) rfl (fun K hK => ?_)
        refine wp_store_part HX.out 0 288 r_info rfl _ _ rfl rfl rfl rfl (by rw [splice_length, splice_length, zer_length]) (by rw [zer_length]; omega) ?_
        intro u hk
        rw [splice_all (by rw [splice_length, splice_length]), H2.out] at hk
        refine hK.out _ _ (fun h => absurd h (by omega)) ?_
        refine Draws.done (by kernel_rfl) ⟨rfl, b5, rfl, hk⟩
      · skip
        refine wp_alloc_zero HS.out 288 r_zero rfl ?_
        intro b5 u hx hb
        have HX := Lib.hid hx; clear hx
        refine hK.out _ _ (fun _ => HS.out.call hb) ?_
        clear hK K
        have hs : (fun u => KeepR w [(bZ, 26, zer 288), (bT, 26, T), (bR, 26, R)] u) u := HS.out.call hb
        clear HS
        have HS := Lib.hid hs; clear hs
        (try simp only [Act.put, List.setIfInBounds_toArray, List.set_cons_zero, List.set_cons_succ])
        clear hb
        refine Draws.does 9 rfl (by kernel_rfl) rfl (fun K hK => ?_)
        go_simp
        go_at_call 122
        refine (rjoin_any (seg R 16 16) (seg T 16 16) HR1.out HT1.out _).mono ?_
        rintro e u ⟨rfl, hb⟩
        (try dsimp only)
        have hx := HX.out.call hb
        clear HX
        have HX := Lib.hid hx; clear hx
        refine hK.out _ _ (fun _ => HS.out.call hb) ?_
        clear hK K
        have hs : (fun u => KeepR w [(bZ, 26, zer 288), (bT, 26, T), (bR, 26, R)] u) u := HS.out.call hb
        clear HS
        have HS := Lib.hid hs; clear hs
        (try simp only [Act.put, List.setIfInBounds_toArray, List.set_cons_zero, List.set_cons_succ])
        clear hb
        refine Draws.take 10 HS.out rfl (by kernel_rfl) (fun _ _ _ h => absurd h.1 (by simp)) (yield_build_r rfl _ _ rfl rfl rfl HJ0.out HJ1.out) ?_
        (try simp only [Act.put, List.setIfInBounds_toArray, List.set_cons_zero, List.set_cons_succ])
        refine Draws.does 12 rfl (by kernel_rfl) rfl (fun K hK => ?_)
        refine wp_store_part HX.out 0 288 r_info rfl _ _ rfl rfl rfl rfl (by rw [splice_length, splice_length, zer_length]) (by rw [zer_length]; omega) ?_
        intro u hk
        rw [splice_all (by rw [splice_length, splice_length]), H2.out] at hk
        refine hK.out _ _ (fun h => absurd h (by omega)) ?_
        refine Draws.done (by kernel_rfl) ⟨rfl, b5, rfl, hk⟩
    · skip
      refine wp_alloc_zero HS.out 288 r_zero rfl ?_
      intro b5 u hx hb
      have HX := Lib.hid hx; clear hx
      refine hK.out _ _ (fun _ => HS.out.call hb) ?_
      clear hK K
      have hs : (fun u => KeepR w [(bZ, 26, zer 288), (bT, 26, T), (bR, 26, R)] u) u := HS.out.call hb
      clear HS
      have HS := Lib.hid hs; clear hs
      (try simp only [Act.put, List.setIfInBounds_toArray, List.set_cons_zero, List.set_cons_succ])
      clear hb
      refine Draws.does 4 rfl (by kernel_rfl) rfl (fun K hK => ?_)
      go_simp
      go_at_call 122
      refine (rjoin_any (seg R 0 16) (seg T 0 16) HR0.out HT0.out _).mono ?_
      rintro e u ⟨rfl, hb⟩
      (try dsimp only)
      have hx := HX.out.call hb
      clear HX
      have HX := Lib.hid hx; clear hx
      refine hK.out _ _ (fun _ => HS.out.call hb) ?_
      clear hK K
      have hs : (fun u => KeepR w [(bZ, 26, zer 288), (bT, 26, T), (bR, 26, R)] u) u := HS.out.call hb
      clear HS
      have HS := Lib.hid hs; clear hs
      (try simp only [Act.put, List.setIfInBounds_toArray, List.set_cons_zero, List.set_cons_succ])
      clear hb
      refine Draws.does 9 rfl (by kernel_rfl) rfl (fun K hK => ?_)
      go_simp
      go_at_call 122
      refine (rjoin_any (seg R 16 16) (seg T 16 16) HR1.out HT1.out _).mono ?_
      rintro e u ⟨rfl, hb⟩
      (try dsimp only)
      have hx := HX.out.call hb
      clear HX
      have HX := Lib.hid hx; clear hx
      refine hK.out _ _ (fun _ => HS.out.call hb) ?_
      clear hK K
      have hs : (fun u => KeepR w [(bZ, 26, zer 288), (bT, 26, T), (bR, 26, R)] u) u := HS.out.call hb
      clear HS
      have HS := Lib.hid hs; clear hs
      (try simp only [Act.put, List.setIfInBounds_toArray, List.set_cons_zero, List.set_cons_succ])
      clear hb
      refine Draws.take 10 HS.out rfl (by kernel_rfl) (fun _ _ _ h => absurd h.1 (by simp)) (yield_build_r rfl _ _ rfl rfl rfl HJ0.out HJ1.out) ?_
      (try simp only [Act.put, List.setIfInBounds_toArray, List.set_cons_zero, List.set_cons_succ])
      refine Draws.does 12 rfl (by kernel_rfl) rfl (fun K hK => ?_)
      refine wp_store_part HX.out 0 288 r_info rfl _ _ rfl rfl rfl rfl (by rw [splice_length, splice_length, zer_length]) (by rw [zer_length]; omega) ?_
      intro u hk
      rw [splice_all (by rw [splice_length, splice_length]), H2.out] at hk
      refine hK.out _ _ (fun h => absurd h (by omega)) ?_
      refine Draws.done (by kernel_rfl) ⟨rfl, b5, rfl, hk⟩
  · rintro a' u ⟨b5, rfl, hk⟩
    clear HK
    have HK := Lib.hid hk; clear hk
    go_wp2_with fail
    go_loopw [6] (fun i wr => ∃ m : Nat, m ≤ 16 ∧ i = .int .i64 m ∧ KeepR w [(b5, 26, mix (32 + m * 16) (joinL R T) (zer 288)), (bZ, 26, zer 288), (bT, 26, T), (bR, 26, R)] wr) (fun i _ => 16 - (intOf i).toNat)
    case atStart => exact ⟨0, by omega, rfl, HK.out⟩
    case round =>
      obtain ⟨m, hm, rfl, hk⟩ := hrel
      clear HK
      have HK := Lib.hid hk
      clear hk
      by_cases hlt : m < 16
      · have HL := Lib.hid (seg_length (R := R) (o := 32 + m * 16) (n := 16) (by have := HR.out; omega))
        have HM := Lib.hid (seg_length (R := T) (o := 32 + m * 16) (n := 16) (by have := HT.out; omega))
        have HE := Lib.hid (HST.out (32 + m * 16) (by omega))
        have HQ := Lib.hid (joinL_len (n := 16) HL.out HM.out)
        have j1 : (0 : Int) ≤ (m : Int) := by omega
        have j2 : (m : Int) < 16 := by omega
        go_wp2_with fail
        refine Draws.start (S := fun u => KeepR w [(bZ, 26, zer 288), (bT, 26, T), (bR, 26, R)] u) (n := 13) 13 rfl (by kernel_rfl) ?_
        have HS := Lib.hid ((HK.out.drew.tail : (fun u => KeepR w [(bZ, 26, zer 288), (bT, 26, T), (bR, 26, R)] u) _))
        refine Draws.take 0 (v := ?v5) HS.out rfl (by kernel_rfl) (fun _ _ _ h => h) (Or.inl ⟨rfl, ?h5⟩) ?r5
        case h5 => intro w' hw'; go_simp; (try with_reducible rfl)
        (try simp only [Act.put, List.setIfInBounds_toArray, List.set_cons_zero, List.set_cons_succ])
        refine Draws.take 1 (v := ?v6) HS.out rfl (by kernel_rfl) (fun _ _ _ h => h) (Or.inl ⟨rfl, ?h6⟩) ?r6
        case h6 => intro w' hw'; go_simp; (try with_reducible rfl)
        (try simp only [Act.put, List.setIfInBounds_toArray, List.set_cons_zero, List.set_cons_succ])
        refine Draws.take 2 (v := ?v7) HS.out rfl (by kernel_rfl) (fun _ _ _ h => h) (Or.inl ⟨rfl, ?h7⟩) ?r7
        case h7 => intro w' hw'; go_simp; (try with_reducible rfl)
        (try simp only [Act.put, List.setIfInBounds_toArray, List.set_cons_zero, List.set_cons_succ])
        refine Draws.take 3 (v := ?v8) HS.out rfl (by kernel_rfl) (fun _ _ _ h => h) (Or.inl ⟨rfl, ?h8⟩) ?r8
        case h8 => intro w' hw'; go_simp; (try with_reducible rfl)
        (try simp only [Act.put, List.setIfInBounds_toArray, List.set_cons_zero, List.set_cons_succ])
        refine Draws.take 4 HS.out rfl (by kernel_rfl) (fun _ _ _ h => h) (yield_part (fun _ h => h) 2 16 Tryz.underlying23 rfl vec_info rfl _ rfl rfl rfl (by have := HR.out; omega)) ?_
        (try simp only [Act.put, List.setIfInBounds_toArray, List.set_cons_zero, List.set_cons_succ])
        refine Draws.take 5 (v := ?v9) HS.out rfl (by kernel_rfl) (fun _ _ _ h => h) (Or.inl ⟨rfl, ?h9⟩) ?r9
        case h9 => intro w' hw'; go_simp; (try with_reducible rfl)
        (try simp only [Act.put, List.setIfInBounds_toArray, List.set_cons_zero, List.set_cons_succ])
        refine Draws.take 6 (v := ?v10) HS.out rfl (by kernel_rfl) (fun _ _ _ h => h) (Or.inl ⟨rfl, ?h10⟩) ?r10
        case h10 => intro w' hw'; go_simp; (try with_reducible rfl)
        (try simp only [Act.put, List.setIfInBounds_toArray, List.set_cons_zero, List.set_cons_succ])
        refine Draws.take 7 (v := ?v11) HS.out rfl (by kernel_rfl) (fun _ _ _ h => h) (Or.inl ⟨rfl, ?h11⟩) ?r11
        case h11 => intro w' hw'; go_simp; (try with_reducible rfl)
        (try simp only [Act.put, List.setIfInBounds_toArray, List.set_cons_zero, List.set_cons_succ])
        refine Draws.take 8 HS.out rfl (by kernel_rfl) (fun _ _ _ h => h) (yield_part (fun _ h => h) 1 16 Tryz.underlying23 rfl vec_info rfl _ rfl rfl rfl (by have := HT.out; omega)) ?_
        (try simp only [Act.put, List.setIfInBounds_toArray, List.set_cons_zero, List.set_cons_succ])
        refine Draws.take 10 (v := ?v12) HS.out rfl (by kernel_rfl) (fun _ _ _ h => h) (Or.inl ⟨rfl, ?h12⟩) ?r12
        case h12 => intro w' hw'; go_simp; (try with_reducible rfl)
        (try simp only [Act.put, List.setIfInBounds_toArray, List.set_cons_zero, List.set_cons_succ])
        refine Draws.does 9 rfl (by kernel_rfl) rfl (fun K hK => ?_)
        go_simp
        go_at_call 122
        refine (rjoin_any (seg R (32 + m * 16) 16) (seg T (32 + m * 16) 16) HL.out HM.out _).mono ?_
        rintro e u ⟨rfl, hb⟩
        (try dsimp only)
        have hk := HK.out.drew.call hb
        clear HK
        have HK := Lib.hid hk; clear hk
        refine hK.out _ _ (fun _ => HK.out.tail) ?_
        clear hK K
        have hs : (fun u => KeepR w [(bZ, 26, zer 288), (bT, 26, T), (bR, 26, R)] u) u := HK.out.tail
        clear HS
        have HS := Lib.hid hs; clear hs
        (try simp only [Act.put, List.setIfInBounds_toArray, List.set_cons_zero, List.set_cons_succ])
        clear hb
        refine Draws.take 11 (v := ?v13) HS.out rfl (by kernel_rfl) (fun _ _ _ h => h) (Or.inl ⟨rfl, ?h13⟩) ?r13
        case h13 => intro w' hw'; go_simp; (try with_reducible rfl)
        (try simp only [Act.put, List.setIfInBounds_toArray, List.set_cons_zero, List.set_cons_succ])
        refine Draws.does 12 rfl (by kernel_rfl) rfl (fun K hK => ?_)
        refine wp_store_part HK.out 0 16 vec_info rfl _ _ rfl rfl rfl rfl HQ.out (by rw [HML.out, zer_length]; omega) ?_
        intro u hk
        rw [HE.out] at hk
        simp only [List.set_cons_zero] at hk
        refine hK.out _ _ (fun _ => hk.tail) ?_
        clear hK K HS HK
        have HK := Lib.hid hk; clear hk
        refine Draws.done (by kernel_rfl) ?_
        go_wp2
        go_roundw
        case rel => exact ⟨m + 1, by omega, by go_num, by have h := HK.out; rw [show 32 + m * 16 + 16 = 32 + (m + 1) * 16 by omega] at h; exact h⟩
        case measure => simp [intOf]; omega
      · obtain rfl : m = 16 := by omega
        have hk := HK.out
        rw [show 32 + 16 * 16 = 288 from rfl, mix_all (by rw [HJ.out, zer_length]) (by rw [zer_length]; omega)] at hk
        clear HK
        have HK := Lib.hid hk; clear hk
        go_wp2_with (first
          | (with_reducible refine load_all HK.out 0 288 Tryz.underlying26 rfl r_info rfl _ rfl rfl rfl HJ.out ?_)
          | (with_reducible refine store_all HK.out 1 288 r_info rfl rfl _ _ rfl rfl rfl rfl HJ.out (zer_length 288) ?_; intro u hk hs; clear hs; simp only [List.set_cons_zero, List.set_cons_succ] at hk; clear HK; have HK := Lib.hid hk; clear hk))
        exact bodyPost_ret (results_r rfl Tryz.underlying26 rfl r_info _ HK.out 1 rfl rfl HJ.out) rfl ⟨rfl, HK.out.bel⟩

set_option maxRecDepth 100000 in
set_option maxHeartbeats 1000000 in
theorem rcjoin_any (A B : List Int) (hA : A.length = 579) (hB : B.length = 579) (w : World) :
    Calls Tryz.prog 44 #[.agg (vals A).toArray, .agg (vals B).toArray] w fun e w' => e = .returned (.tuple #[.agg (vals (cjA A B)).toArray, .int .i64 (cjE A B)]) ∧ Below w.heap.size w w' := by
  have HL1 := Lib.hid (show (seg A 3 288).length = 288 from dnR_length hA)
  have HL2 := Lib.hid (show (seg B 3 288).length = 288 from dnR_length hB)
  have HL3 := Lib.hid (show (seg A 291 288).length = 288 from upR_length hA)
  have HL4 := Lib.hid (show (seg B 291 288).length = 288 from upR_length hB)
  have HJ1 := Lib.hid (jl_length HL1.out HL2.out)
  have HJ2 := Lib.hid (jl_length HL3.out HL4.out)
  have HQ := Lib.hid (show seg (splice A 3 (joinL (seg A 3 288) (seg B 3 288))) 291 288 = seg A 291 288 from splice_seg_apart (by have := HJ1.out; omega) (by omega) (by have := HJ1.out; omega))
  have HA := Lib.hid hA; clear hA
  have HB := Lib.hid hB; clear hB
  have HK := Lib.hid (KeepR.start w)
  obtain ⟨p0, hp0⟩ : ∃ p, A.getD 0 0 = p := ⟨_, rfl⟩
  obtain ⟨q0, hq0⟩ : ∃ q, B.getD 0 0 = q := ⟨_, rfl⟩
  obtain ⟨p1, hp1⟩ : ∃ p, A.getD 1 0 = p := ⟨_, rfl⟩
  obtain ⟨q1, hq1⟩ : ∃ q, B.getD 1 0 = q := ⟨_, rfl⟩
  obtain ⟨p2, hp2⟩ : ∃ p, A.getD 2 0 = p := ⟨_, rfl⟩
  obtain ⟨q2, hq2⟩ : ∃ q, B.getD 2 0 = q := ⟨_, rfl⟩
  have hsb : sameB A B = ((p0 == q0) && (p1 == q1) && (p2 == q2)) := by simp only [sameB, hp0, hp1, hp2, hq0, hq1, hq2]
  have P0 := Lib.hid hp0; clear hp0
  have Q0 := Lib.hid hq0; clear hq0
  have P1 := Lib.hid hp1; clear hp1
  have Q1 := Lib.hid hq1; clear hq1
  have P2 := Lib.hid hp2; clear hp2
  have Q2 := Lib.hid hq2; clear hq2
  cases t0 : (p0 == q0) with
  | false =>
    have n0 : (p0 != q0) = true := by simp only [bne, t0, Bool.not_false]
    obtain ⟨e1, e2⟩ := cj_no (A := A) (B := B) (by rw [hsb]; simp only [t0, Bool.false_and])
    rw [e1, e2]; clear e1 e2
    go_enter Tryz.func44, Tryz.ntmps44
    go_wp2_with (first
      | (with_reducible refine box_new (R := A) HK.out rfl _ rfl rfl ?_; intro ba u hk hb; clear hb; clear HK; have HK := Lib.hid hk; clear hk)
      | (with_reducible refine box_new (R := B) HK.out rfl _ rfl rfl ?_; intro bb u hk hb; clear hb; clear HK; have HK := Lib.hid hk; clear hk)
      | (with_reducible refine alloc_zero HK.out 579 c_zero rfl rfl ?_; intro br u hn hk hb; clear hn hb; clear HK; have HK := Lib.hid hk; clear hk)
      | (with_reducible refine build_zero 579 c_build rfl rfl ?_)
      | (with_reducible refine load_val HK.out 2 rfl _ rfl rfl rfl P0.out (by have := HA.out; omega) ?_)
      | (with_reducible refine load_val HK.out 1 rfl _ rfl rfl rfl Q0.out (by have := HB.out; omega) ?_)
      | (with_reducible refine load_val HK.out 2 rfl _ rfl rfl rfl P1.out (by have := HA.out; omega) ?_)
      | (with_reducible refine load_val HK.out 1 rfl _ rfl rfl rfl Q1.out (by have := HB.out; omega) ?_)
      | (with_reducible refine load_val HK.out 2 rfl _ rfl rfl rfl P2.out (by have := HA.out; omega) ?_)
      | (with_reducible refine load_val HK.out 1 rfl _ rfl rfl rfl Q2.out (by have := HB.out; omega) ?_)
      | (with_reducible refine load_val_want HK.out 2 _ rfl rfl rfl rfl P0.out (by have := HA.out; omega) ?_)
      | (with_reducible refine load_val_want HK.out 1 _ rfl rfl rfl rfl Q0.out (by have := HB.out; omega) ?_)
      | (with_reducible refine load_val_want HK.out 2 _ rfl rfl rfl rfl P1.out (by have := HA.out; omega) ?_)
      | (with_reducible refine load_val_want HK.out 1 _ rfl rfl rfl rfl Q1.out (by have := HB.out; omega) ?_)
      | (with_reducible refine load_val_want HK.out 2 _ rfl rfl rfl rfl P2.out (by have := HA.out; omega) ?_)
      | (with_reducible refine load_val_want HK.out 1 _ rfl rfl rfl rfl Q2.out (by have := HB.out; omega) ?_)
      | (with_reducible refine store_all HK.out 0 579 c_info rfl rfl _ _ rfl rfl rfl rfl (zer_length 579) (zer_length 579) ?_; intro u hk hs; clear hs; simp only [List.set_cons_zero] at hk; clear HK; have HK := Lib.hid hk; clear hk))
    exact bodyPost_ret (results_2 rfl Tryz.underlying28 rfl c_info _ HK.out 0 _ rfl rfl rfl (zer_length 579)) rfl ⟨rfl, HK.out.bel⟩
  | true =>
    have n0 : (p0 != q0) = false := by simp only [bne, t0, Bool.not_true]
    cases t1 : (p1 == q1) with
    | false =>
      have n1 : (p1 != q1) = true := by simp only [bne, t1, Bool.not_false]
      obtain ⟨e1, e2⟩ := cj_no (A := A) (B := B) (by rw [hsb]; simp only [t0, t1, Bool.false_and, Bool.and_false])
      rw [e1, e2]; clear e1 e2
      go_enter Tryz.func44, Tryz.ntmps44
      go_wp2_with (first
        | (with_reducible refine box_new (R := A) HK.out rfl _ rfl rfl ?_; intro ba u hk hb; clear hb; clear HK; have HK := Lib.hid hk; clear hk)
        | (with_reducible refine box_new (R := B) HK.out rfl _ rfl rfl ?_; intro bb u hk hb; clear hb; clear HK; have HK := Lib.hid hk; clear hk)
        | (with_reducible refine alloc_zero HK.out 579 c_zero rfl rfl ?_; intro br u hn hk hb; clear hn hb; clear HK; have HK := Lib.hid hk; clear hk)
        | (with_reducible refine build_zero 579 c_build rfl rfl ?_)
        | (with_reducible refine load_val HK.out 2 rfl _ rfl rfl rfl P0.out (by have := HA.out; omega) ?_)
        | (with_reducible refine load_val HK.out 1 rfl _ rfl rfl rfl Q0.out (by have := HB.out; omega) ?_)
        | (with_reducible refine load_val HK.out 2 rfl _ rfl rfl rfl P1.out (by have := HA.out; omega) ?_)
        | (with_reducible refine load_val HK.out 1 rfl _ rfl rfl rfl Q1.out (by have := HB.out; omega) ?_)
        | (with_reducible refine load_val HK.out 2 rfl _ rfl rfl rfl P2.out (by have := HA.out; omega) ?_)
        | (with_reducible refine load_val HK.out 1 rfl _ rfl rfl rfl Q2.out (by have := HB.out; omega) ?_)
        | (with_reducible refine load_val_want HK.out 2 _ rfl rfl rfl rfl P0.out (by have := HA.out; omega) ?_)
        | (with_reducible refine load_val_want HK.out 1 _ rfl rfl rfl rfl Q0.out (by have := HB.out; omega) ?_)
        | (with_reducible refine load_val_want HK.out 2 _ rfl rfl rfl rfl P1.out (by have := HA.out; omega) ?_)
        | (with_reducible refine load_val_want HK.out 1 _ rfl rfl rfl rfl Q1.out (by have := HB.out; omega) ?_)
        | (with_reducible refine load_val_want HK.out 2 _ rfl rfl rfl rfl P2.out (by have := HA.out; omega) ?_)
        | (with_reducible refine load_val_want HK.out 1 _ rfl rfl rfl rfl Q2.out (by have := HB.out; omega) ?_)
        | (with_reducible refine store_all HK.out 0 579 c_info rfl rfl _ _ rfl rfl rfl rfl (zer_length 579) (zer_length 579) ?_; intro u hk hs; clear hs; simp only [List.set_cons_zero] at hk; clear HK; have HK := Lib.hid hk; clear hk))
      exact bodyPost_ret (results_2 rfl Tryz.underlying28 rfl c_info _ HK.out 0 _ rfl rfl rfl (zer_length 579)) rfl ⟨rfl, HK.out.bel⟩
    | true =>
      have n1 : (p1 != q1) = false := by simp only [bne, t1, Bool.not_true]
      cases t2 : (p2 == q2) with
      | false =>
        have n2 : (p2 != q2) = true := by simp only [bne, t2, Bool.not_false]
        obtain ⟨e1, e2⟩ := cj_no (A := A) (B := B) (by rw [hsb]; simp only [t0, t1, t2, Bool.true_and, Bool.and_false])
        rw [e1, e2]; clear e1 e2
        go_enter Tryz.func44, Tryz.ntmps44
        go_wp2_with (first
          | (with_reducible refine box_new (R := A) HK.out rfl _ rfl rfl ?_; intro ba u hk hb; clear hb; clear HK; have HK := Lib.hid hk; clear hk)
          | (with_reducible refine box_new (R := B) HK.out rfl _ rfl rfl ?_; intro bb u hk hb; clear hb; clear HK; have HK := Lib.hid hk; clear hk)
          | (with_reducible refine alloc_zero HK.out 579 c_zero rfl rfl ?_; intro br u hn hk hb; clear hn hb; clear HK; have HK := Lib.hid hk; clear hk)
          | (with_reducible refine build_zero 579 c_build rfl rfl ?_)
          | (with_reducible refine load_val HK.out 2 rfl _ rfl rfl rfl P0.out (by have := HA.out; omega) ?_)
          | (with_reducible refine load_val HK.out 1 rfl _ rfl rfl rfl Q0.out (by have := HB.out; omega) ?_)
          | (with_reducible refine load_val HK.out 2 rfl _ rfl rfl rfl P1.out (by have := HA.out; omega) ?_)
          | (with_reducible refine load_val HK.out 1 rfl _ rfl rfl rfl Q1.out (by have := HB.out; omega) ?_)
          | (with_reducible refine load_val HK.out 2 rfl _ rfl rfl rfl P2.out (by have := HA.out; omega) ?_)
          | (with_reducible refine load_val HK.out 1 rfl _ rfl rfl rfl Q2.out (by have := HB.out; omega) ?_)
          | (with_reducible refine load_val_want HK.out 2 _ rfl rfl rfl rfl P0.out (by have := HA.out; omega) ?_)
          | (with_reducible refine load_val_want HK.out 1 _ rfl rfl rfl rfl Q0.out (by have := HB.out; omega) ?_)
          | (with_reducible refine load_val_want HK.out 2 _ rfl rfl rfl rfl P1.out (by have := HA.out; omega) ?_)
          | (with_reducible refine load_val_want HK.out 1 _ rfl rfl rfl rfl Q1.out (by have := HB.out; omega) ?_)
          | (with_reducible refine load_val_want HK.out 2 _ rfl rfl rfl rfl P2.out (by have := HA.out; omega) ?_)
          | (with_reducible refine load_val_want HK.out 1 _ rfl rfl rfl rfl Q2.out (by have := HB.out; omega) ?_)
          | (with_reducible refine store_all HK.out 0 579 c_info rfl rfl _ _ rfl rfl rfl rfl (zer_length 579) (zer_length 579) ?_; intro u hk hs; clear hs; simp only [List.set_cons_zero] at hk; clear HK; have HK := Lib.hid hk; clear hk))
        exact bodyPost_ret (results_2 rfl Tryz.underlying28 rfl c_info _ HK.out 0 _ rfl rfl rfl (zer_length 579)) rfl ⟨rfl, HK.out.bel⟩
      | true =>
        have n2 : (p2 != q2) = false := by simp only [bne, t2, Bool.not_true]
        obtain ⟨e1, e2⟩ := cj_yes (A := A) (B := B) (by rw [hsb]; simp only [t0, t1, t2, Bool.and_self])
        rw [e1, e2]; clear e1 e2
        go_enter Tryz.func44, Tryz.ntmps44
        go_wp2_with (first
          | (with_reducible refine box_new (R := A) HK.out rfl _ rfl rfl ?_; intro ba u hk hb; clear hb; clear HK; have HK := Lib.hid hk; clear hk)
          | (with_reducible refine box_new (R := B) HK.out rfl _ rfl rfl ?_; intro bb u hk hb; clear hb; clear HK; have HK := Lib.hid hk; clear hk)
          | (with_reducible refine alloc_zero HK.out 579 c_zero rfl rfl ?_; intro br u hn hk hb; clear hn hb; clear HK; have HK := Lib.hid hk; clear hk)
          | (with_reducible refine build_zero 579 c_build rfl rfl ?_)
          | (with_reducible refine load_val HK.out 2 rfl _ rfl rfl rfl P0.out (by have := HA.out; omega) ?_)
          | (with_reducible refine load_val HK.out 1 rfl _ rfl rfl rfl Q0.out (by have := HB.out; omega) ?_)
          | (with_reducible refine load_val HK.out 2 rfl _ rfl rfl rfl P1.out (by have := HA.out; omega) ?_)
          | (with_reducible refine load_val HK.out 1 rfl _ rfl rfl rfl Q1.out (by have := HB.out; omega) ?_)
          | (with_reducible refine load_val HK.out 2 rfl _ rfl rfl rfl P2.out (by have := HA.out; omega) ?_)
          | (with_reducible refine load_val HK.out 1 rfl _ rfl rfl rfl Q2.out (by have := HB.out; omega) ?_)
          | (with_reducible refine load_val_want HK.out 2 _ rfl rfl rfl rfl P0.out (by have := HA.out; omega) ?_)
          | (with_reducible refine load_val_want HK.out 1 _ rfl rfl rfl rfl Q0.out (by have := HB.out; omega) ?_)
          | (with_reducible refine load_val_want HK.out 2 _ rfl rfl rfl rfl P1.out (by have := HA.out; omega) ?_)
          | (with_reducible refine load_val_want HK.out 1 _ rfl rfl rfl rfl Q1.out (by have := HB.out; omega) ?_)
          | (with_reducible refine load_val_want HK.out 2 _ rfl rfl rfl rfl P2.out (by have := HA.out; omega) ?_)
          | (with_reducible refine load_val_want HK.out 1 _ rfl rfl rfl rfl Q2.out (by have := HB.out; omega) ?_)
          | (with_reducible refine load_part HK.out 2 288 Tryz.underlying26 rfl r_info rfl _ rfl rfl rfl (by have := HA.out; omega) ?_)
          | (with_reducible refine load_part HK.out 2 288 Tryz.underlying26 rfl r_info rfl _ rfl rfl rfl (by rw [splice_length]; have := HA.out; omega) ?_; rw [HQ.out])
          | (with_reducible refine load_part HK.out 1 288 Tryz.underlying26 rfl r_info rfl _ rfl rfl rfl (by have := HB.out; omega) ?_)
          | (go_at_call 91; (with_reducible refine (rjoin_r (seg A 3 288) (seg B 3 288) HL1.out HL2.out _).mono ?_); rintro e u ⟨rfl, hb⟩; have hk := HK.out.call hb; clear hb; clear HK; have HK := Lib.hid hk; clear hk)
          | (go_at_call 91; (with_reducible refine (rjoin_r (seg A 291 288) (seg B 291 288) HL3.out HL4.out _).mono ?_); rintro e u ⟨rfl, hb⟩; have hk := HK.out.call hb; clear hb; clear HK; have HK := Lib.hid hk; clear hk)
          | (with_reducible refine store_part HK.out 2 288 r_info rfl rfl _ _ rfl rfl rfl rfl HJ1.out (by have := HA.out; omega) ?_; intro u hk hs; clear hs; simp only [List.set_cons_zero, List.set_cons_succ] at hk; clear HK; have HK := Lib.hid hk; clear hk)
          | (with_reducible refine store_part HK.out 2 288 r_info rfl rfl _ _ rfl rfl rfl rfl HJ2.out (by rw [splice_length]; have := HA.out; omega) ?_; intro u hk hs; clear hs; simp only [List.set_cons_zero, List.set_cons_succ] at hk; clear HK; have HK := Lib.hid hk; clear hk)
          | (with_reducible refine load_all HK.out 2 579 Tryz.underlying28 rfl c_info rfl _ rfl rfl rfl (by rw [splice_length, splice_length]; exact HA.out) ?_)
          | (with_reducible refine store_all HK.out 0 579 c_info rfl rfl _ _ rfl rfl rfl rfl (by rw [splice_length, splice_length]; exact HA.out) (zer_length 579) ?_; intro u hk hs; clear hs; simp only [List.set_cons_zero] at hk; clear HK; have HK := Lib.hid hk; clear hk))
        exact bodyPost_ret (results_2 rfl Tryz.underlying28 rfl c_info _ HK.out 0 _ rfl rfl rfl (by rw [splice_length, splice_length]; exact HA.out)) rfl ⟨rfl, HK.out.bel⟩
theorem beh_any (a b : Lk) (w : World) :
    Calls Tryz.prog 92 #[.agg (vals a.l).toArray, .agg (vals b.l).toArray] w fun e w' => e = .returned (.bool (behB a b)) ∧ Below w.heap.size w w' := by
  have HK := Lib.hid (KeepR.start w)
  by_cases h0 : a.s = b.s
  · have _ := h0
    by_cases h1 : a.v = b.v
    · have _ := h1
      by_cases h2 : a.h = b.h
      · have _ := h2
        rw [show behB a b = decide (b.x < a.x) by simp [behB, h0, h1, h2]]
        go_enter Tryz.func92, Tryz.ntmps92
        go_wp2_with (first
          | (with_reducible refine box_new (R := a.l) HK.out rfl _ rfl rfl ?_; intro ba u hk hb; clear hb; clear HK; have HK := Lib.hid hk; clear hk)
          | (with_reducible refine box_new (R := b.l) HK.out rfl _ rfl rfl ?_; intro bb u hk hb; clear hb; clear HK; have HK := Lib.hid hk; clear hk)
          | (with_reducible refine load_val HK.out 1 rfl _ rfl rfl rfl (Lk.g0 _) (Lk.p0 _) ?_)
          | (with_reducible refine load_val HK.out 0 rfl _ rfl rfl rfl (Lk.g0 _) (Lk.p0 _) ?_)
          | (with_reducible refine load_val HK.out 1 rfl _ rfl rfl rfl (Lk.g1 _) (Lk.p1 _) ?_)
          | (with_reducible refine load_val HK.out 0 rfl _ rfl rfl rfl (Lk.g1 _) (Lk.p1 _) ?_)
          | (with_reducible refine load_val HK.out 1 rfl _ rfl rfl rfl (Lk.g2 _) (Lk.p2 _) ?_)
          | (with_reducible refine load_val HK.out 0 rfl _ rfl rfl rfl (Lk.g2 _) (Lk.p2 _) ?_)
          | (with_reducible refine load_val HK.out 1 rfl _ rfl rfl rfl (Lk.g3 _) (Lk.p3 _) ?_)
          | (with_reducible refine load_val HK.out 0 rfl _ rfl rfl rfl (Lk.g3 _) (Lk.p3 _) ?_))
        go_ret
        exact ⟨rfl, HK.out.bel⟩
      · have _ := h2
        rw [show behB a b = decide (b.h < a.h) by simp [behB, h0, h1, h2]]
        go_enter Tryz.func92, Tryz.ntmps92
        go_wp2_with (first
          | (with_reducible refine box_new (R := a.l) HK.out rfl _ rfl rfl ?_; intro ba u hk hb; clear hb; clear HK; have HK := Lib.hid hk; clear hk)
          | (with_reducible refine box_new (R := b.l) HK.out rfl _ rfl rfl ?_; intro bb u hk hb; clear hb; clear HK; have HK := Lib.hid hk; clear hk)
          | (with_reducible refine load_val HK.out 1 rfl _ rfl rfl rfl (Lk.g0 _) (Lk.p0 _) ?_)
          | (with_reducible refine load_val HK.out 0 rfl _ rfl rfl rfl (Lk.g0 _) (Lk.p0 _) ?_)
          | (with_reducible refine load_val HK.out 1 rfl _ rfl rfl rfl (Lk.g1 _) (Lk.p1 _) ?_)
          | (with_reducible refine load_val HK.out 0 rfl _ rfl rfl rfl (Lk.g1 _) (Lk.p1 _) ?_)
          | (with_reducible refine load_val HK.out 1 rfl _ rfl rfl rfl (Lk.g2 _) (Lk.p2 _) ?_)
          | (with_reducible refine load_val HK.out 0 rfl _ rfl rfl rfl (Lk.g2 _) (Lk.p2 _) ?_)
          | (with_reducible refine load_val HK.out 1 rfl _ rfl rfl rfl (Lk.g3 _) (Lk.p3 _) ?_)
          | (with_reducible refine load_val HK.out 0 rfl _ rfl rfl rfl (Lk.g3 _) (Lk.p3 _) ?_))
        go_ret
        exact ⟨rfl, HK.out.bel⟩
    · have _ := h1
      rw [show behB a b = decide (b.v < a.v) by simp [behB, h0, h1]]
      go_enter Tryz.func92, Tryz.ntmps92
      go_wp2_with (first
        | (with_reducible refine box_new (R := a.l) HK.out rfl _ rfl rfl ?_; intro ba u hk hb; clear hb; clear HK; have HK := Lib.hid hk; clear hk)
        | (with_reducible refine box_new (R := b.l) HK.out rfl _ rfl rfl ?_; intro bb u hk hb; clear hb; clear HK; have HK := Lib.hid hk; clear hk)
        | (with_reducible refine load_val HK.out 1 rfl _ rfl rfl rfl (Lk.g0 _) (Lk.p0 _) ?_)
        | (with_reducible refine load_val HK.out 0 rfl _ rfl rfl rfl (Lk.g0 _) (Lk.p0 _) ?_)
        | (with_reducible refine load_val HK.out 1 rfl _ rfl rfl rfl (Lk.g1 _) (Lk.p1 _) ?_)
        | (with_reducible refine load_val HK.out 0 rfl _ rfl rfl rfl (Lk.g1 _) (Lk.p1 _) ?_)
        | (with_reducible refine load_val HK.out 1 rfl _ rfl rfl rfl (Lk.g2 _) (Lk.p2 _) ?_)
        | (with_reducible refine load_val HK.out 0 rfl _ rfl rfl rfl (Lk.g2 _) (Lk.p2 _) ?_)
        | (with_reducible refine load_val HK.out 1 rfl _ rfl rfl rfl (Lk.g3 _) (Lk.p3 _) ?_)
        | (with_reducible refine load_val HK.out 0 rfl _ rfl rfl rfl (Lk.g3 _) (Lk.p3 _) ?_))
      go_ret
      exact ⟨rfl, HK.out.bel⟩
  · have _ := h0
    rw [show behB a b = decide (b.s < a.s) by simp [behB, h0]]
    go_enter Tryz.func92, Tryz.ntmps92
    go_wp2_with (first
      | (with_reducible refine box_new (R := a.l) HK.out rfl _ rfl rfl ?_; intro ba u hk hb; clear hb; clear HK; have HK := Lib.hid hk; clear hk)
      | (with_reducible refine box_new (R := b.l) HK.out rfl _ rfl rfl ?_; intro bb u hk hb; clear hb; clear HK; have HK := Lib.hid hk; clear hk)
      | (with_reducible refine load_val HK.out 1 rfl _ rfl rfl rfl (Lk.g0 _) (Lk.p0 _) ?_)
      | (with_reducible refine load_val HK.out 0 rfl _ rfl rfl rfl (Lk.g0 _) (Lk.p0 _) ?_)
      | (with_reducible refine load_val HK.out 1 rfl _ rfl rfl rfl (Lk.g1 _) (Lk.p1 _) ?_)
      | (with_reducible refine load_val HK.out 0 rfl _ rfl rfl rfl (Lk.g1 _) (Lk.p1 _) ?_)
      | (with_reducible refine load_val HK.out 1 rfl _ rfl rfl rfl (Lk.g2 _) (Lk.p2 _) ?_)
      | (with_reducible refine load_val HK.out 0 rfl _ rfl rfl rfl (Lk.g2 _) (Lk.p2 _) ?_)
      | (with_reducible refine load_val HK.out 1 rfl _ rfl rfl rfl (Lk.g3 _) (Lk.p3 _) ?_)
      | (with_reducible refine load_val HK.out 0 rfl _ rfl rfl rfl (Lk.g3 _) (Lk.p3 _) ?_))
    go_ret
    exact ⟨rfl, HK.out.bel⟩
theorem rjoin_anyK (a b : Lk) (w : World) :
    Calls Tryz.prog 45 #[.agg (vals a.l).toArray, .agg (vals b.l).toArray] w fun e w' => e = .returned (.agg (vals (joinK a b).l).toArray) ∧ Below w.heap.size w w' := by
  have HK := Lib.hid (KeepR.start w)
  cases h : behB b a with
  | true =>
    rw [joinK_lt (behB_iff.1 h)]
    go_enter Tryz.func45, Tryz.ntmps45
    go_wp2_with (first
      | (with_reducible refine box_new (R := a.l) HK.out rfl _ rfl rfl ?_; intro ba u hk hb; clear hb; clear HK; have HK := Lib.hid hk; clear hk)
      | (with_reducible refine box_new (R := b.l) HK.out rfl _ rfl rfl ?_; intro bb u hk hb; clear hb; clear HK; have HK := Lib.hid hk; clear hk)
      | (with_reducible refine alloc_zero HK.out 4 lk_zero rfl rfl ?_; intro b u hn hk hb; clear hn; clear hb; clear HK; have HK := Lib.hid hk; clear hk)
      | (with_reducible refine load_all HK.out 2 4 Tryz.underlying30 rfl lk_info rfl _ rfl rfl rfl (Lk.len _) ?_)
      | (with_reducible refine load_all HK.out 1 4 Tryz.underlying30 rfl lk_info rfl _ rfl rfl rfl (Lk.len _) ?_)
      | (go_at_call 92; (with_reducible refine (beh_any _ _ _).mono ?_); rintro e u ⟨rfl, hb⟩; have hk := HK.out.call hb; clear hb; clear HK; have HK := Lib.hid hk; clear hk)
      | (with_reducible refine store_all HK.out 0 4 lk_info rfl rfl _ _ rfl rfl rfl rfl (Lk.len _) (zer_length 4) ?_; intro u hk hs; clear hs; simp only [List.set_cons_zero] at hk; clear HK; have HK := Lib.hid hk; clear hk))
    exact bodyPost_ret (results_r rfl Tryz.underlying30 rfl lk_info _ HK.out 0 rfl rfl (Lk.len _)) rfl ⟨rfl, HK.out.bel⟩
  | false =>
    rw [joinK_not (fun h' => by rw [behB_iff.2 h'] at h; cases h)]
    go_enter Tryz.func45, Tryz.ntmps45
    go_wp2_with (first
      | (with_reducible refine box_new (R := a.l) HK.out rfl _ rfl rfl ?_; intro ba u hk hb; clear hb; clear HK; have HK := Lib.hid hk; clear hk)
      | (with_reducible refine box_new (R := b.l) HK.out rfl _ rfl rfl ?_; intro bb u hk hb; clear hb; clear HK; have HK := Lib.hid hk; clear hk)
      | (with_reducible refine alloc_zero HK.out 4 lk_zero rfl rfl ?_; intro b u hn hk hb; clear hn; clear hb; clear HK; have HK := Lib.hid hk; clear hk)
      | (with_reducible refine load_all HK.out 2 4 Tryz.underlying30 rfl lk_info rfl _ rfl rfl rfl (Lk.len _) ?_)
      | (with_reducible refine load_all HK.out 1 4 Tryz.underlying30 rfl lk_info rfl _ rfl rfl rfl (Lk.len _) ?_)
      | (go_at_call 92; (with_reducible refine (beh_any _ _ _).mono ?_); rintro e u ⟨rfl, hb⟩; have hk := HK.out.call hb; clear hb; clear HK; have HK := Lib.hid hk; clear hk)
      | (with_reducible refine store_all HK.out 0 4 lk_info rfl rfl _ _ rfl rfl rfl rfl (Lk.len _) (zer_length 4) ?_; intro u hk hs; clear hs; simp only [List.set_cons_zero] at hk; clear HK; have HK := Lib.hid hk; clear hk))
    exact bodyPost_ret (results_r rfl Tryz.underlying30 rfl lk_info _ HK.out 0 rfl rfl (Lk.len _)) rfl ⟨rfl, HK.out.bel⟩

end Go.Proofs.YtofngihdnjgmeaaGreat
