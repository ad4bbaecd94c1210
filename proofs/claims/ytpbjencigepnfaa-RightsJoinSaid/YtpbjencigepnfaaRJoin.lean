/- Contracts of the document's Join and Over. -/
import Derived.Test.YtpbjencigepnfaaRefVec
import Derived.Test.YtpbjencigepnfaaRJoin0
namespace Go.Proofs.Ytpbjencigepnfaa
open Go.ChangeShapes Go.WideShapes Go.ChangeAt Go.RowKit

set_option maxHeartbeats 2000000 in
theorem rjoin_r (R T : List Int) (hR : R.length = 288) (hT : T.length = 288) (w : World) :
    Calls Try.prog 25 #[.agg (vals R).toArray, .agg (vals T).toArray] w fun e w' => e = .returned (.agg (vals (joinL R T)).toArray) ∧ Below w.heap.size w w' := by
  have HJ := Lib.hid (joinL_len hR hT)
  have H2 := Lib.hid (two_joins hR hT)
  have HST := Lib.hid (fun m (hm : m + 16 ≤ 288) => rjoin_step hR hT (m := m) hm)
  have HML := Lib.hid (fun m => mix_length (zs := joinL R T) (xs := zer 288) (by rw [joinL_len hR hT, zer_length]) m)
  have HR0 := Lib.hid (seg_length (R := R) (o := 0) (n := 16) (by omega))
  have HR1 := Lib.hid (seg_length (R := R) (o := 16) (n := 16) (by omega))
  have HT0 := Lib.hid (seg_length (R := T) (o := 0) (n := 16) (by omega))
  have HT1 := Lib.hid (seg_length (R := T) (o := 16) (n := 16) (by omega))
  have HJ0 := Lib.hid (joinL_len (n := 16) HR0.out HT0.out)
  have HJ1 := Lib.hid (joinL_len (n := 16) HR1.out HT1.out)
  have HR := Lib.hid hR; clear hR
  have HT := Lib.hid hT; clear hT
  have HK := Lib.hid (KeepR.start w)
  go_enter Try.func25, Try.ntmps25
  go_wp2_with (first
    | (with_reducible refine box_new (R := R) HK.out rfl _ rfl rfl ?_; intro bR u hk hb; clear hb; clear HK; have HK := Lib.hid hk; clear hk)
    | (with_reducible refine box_new (R := T) HK.out rfl _ rfl rfl ?_; intro bT u hk hb; clear hb; clear HK; have HK := Lib.hid hk; clear hk)
    | (with_reducible refine alloc_zero HK.out 288 r_zero rfl rfl ?_; intro bZ u hn hk hb; clear hn hb; clear HK; have HK := Lib.hid hk; clear hk))
  refine region_via (fun a' u => ∃ b5 : Nat, a' = ⟨#[.agg (vals (R)).toArray, .agg (vals (T)).toArray, .pointer (some ⟨bR, 0, none⟩), .pointer (some ⟨bT, 0, none⟩), .pointer (some ⟨bZ, 0, none⟩), .pointer (some ⟨b5, 0, none⟩), undef, .pointer (some ⟨bR, 0, none⟩), .agg (vals (seg R 0 16)).toArray, .pointer (some ⟨bT, 0, none⟩), .agg (vals (seg T 0 16)).toArray, .agg (vals (joinL (seg R 0 16) (seg T 0 16))).toArray, .pointer (some ⟨bR, 16, none⟩), .agg (vals (seg R 16 16)).toArray, .pointer (some ⟨bT, 16, none⟩), .agg (vals (seg T 16 16)).toArray, .agg (vals (joinL (seg R 16 16) (seg T 16 16))).toArray, .agg (vals (splice (splice (zer 288) 0 (joinL (seg R 0 16) (seg T 0 16))) 16 (joinL (seg R 16 16) (seg T 16 16)))).toArray, undef, undef, undef, undef, undef, undef, undef, undef, undef, undef, undef, undef, undef, undef, undef, undef, undef], []⟩ ∧ KeepR w [(b5, 26, mix 32 (joinL R T) (zer 288)), (bZ, 26, zer 288), (bT, 26, T), (bR, 26, R)] u) ?_ ?_
  · skip
    refine Draws.start (S := fun u => KeepR w [(bZ, 26, zer 288), (bT, 26, T), (bR, 26, R)] u) (n := 12) 13 rfl (by kernel_rfl) ?_
    have HS := Lib.hid ((HK.out.drew : (fun u => KeepR w [(bZ, 26, zer 288), (bT, 26, T), (bR, 26, R)] u) _))
    refine Draws.take 0 (v := ?v1) HS.out rfl (by kernel_rfl) (fun _ _ _ h => absurd h.1 (by simp)) (Or.inl ⟨rfl, ?h1⟩) ?r1
    case h1 => intro w' hw'; go_simp; (try with_reducible rfl)
    (try simp only [Act.put, List.setIfInBounds_toArray, List.set_cons_zero, List.set_cons_succ])
    refine Draws.take 1 HS.out rfl (by kernel_rfl) (fun _ _ _ h => absurd h.1 (by simp)) (yield_part (fun _ h => h) 2 16 Try.underlying23 rfl vec_info rfl _ rfl rfl rfl (by have := HR.out; omega)) ?_
    (try simp only [Act.put, List.setIfInBounds_toArray, List.set_cons_zero, List.set_cons_succ])
    refine Draws.take 2 (v := ?v2) HS.out rfl (by kernel_rfl) (fun _ _ _ h => absurd h.1 (by simp)) (Or.inl ⟨rfl, ?h2⟩) ?r2
    case h2 => intro w' hw'; go_simp; (try with_reducible rfl)
    (try simp only [Act.put, List.setIfInBounds_toArray, List.set_cons_zero, List.set_cons_succ])
    refine Draws.take 3 HS.out rfl (by kernel_rfl) (fun _ _ _ h => absurd h.1 (by simp)) (yield_part (fun _ h => h) 1 16 Try.underlying23 rfl vec_info rfl _ rfl rfl rfl (by have := HT.out; omega)) ?_
    (try simp only [Act.put, List.setIfInBounds_toArray, List.set_cons_zero, List.set_cons_succ])
    refine Draws.take 5 (v := ?v3) HS.out rfl (by kernel_rfl) (fun _ _ _ h => absurd h.1 (by simp)) (Or.inl ⟨rfl, ?h3⟩) ?r3
    case h3 => intro w' hw'; go_simp; (try with_reducible rfl)
    (try simp only [Act.put, List.setIfInBounds_toArray, List.set_cons_zero, List.set_cons_succ])
    refine Draws.take 6 HS.out rfl (by kernel_rfl) (fun _ _ _ h => absurd h.1 (by simp)) (yield_part (fun _ h => h) 2 16 Try.underlying23 rfl vec_info rfl _ rfl rfl rfl (by have := HR.out; omega)) ?_
    (try simp only [Act.put, List.setIfInBounds_toArray, List.set_cons_zero, List.set_cons_succ])
    refine Draws.take 7 (v := ?v4) HS.out rfl (by kernel_rfl) (fun _ _ _ h => absurd h.1 (by simp)) (Or.inl ⟨rfl, ?h4⟩) ?r4
    case h4 => intro w' hw'; go_simp; (try with_reducible rfl)
    (try simp only [Act.put, List.setIfInBounds_toArray, List.set_cons_zero, List.set_cons_succ])
    refine Draws.take 8 HS.out rfl (by kernel_rfl) (fun _ _ _ h => absurd h.1 (by simp)) (yield_part (fun _ h => h) 1 16 Try.underlying23 rfl vec_info rfl _ rfl rfl rfl (by have := HT.out; omega)) ?_
    (try simp only [Act.put, List.setIfInBounds_toArray, List.set_cons_zero, List.set_cons_succ])
    refine Draws.either 4 11 rfl rfl (by kernel_rfl) rfl rfl (fun K hK => ?_) (fun K hK => ?_)
    · skip
      go_simp
      go_at_call 43
      refine (rjoin_any (seg R 0 16) (seg T 0 16) HR0.out HT0.out _).mono ?_
      rintro e u ⟨rfl, hb⟩
      (try dsimp only)
      refine hK.out _ _ (fun _ => HS.out.call hb) ?_
      clear hK K
      have hs : (fun u => KeepR w [(bZ, 26, zer 288), (bT, 26, T), (bR, 26, R)] u) u := HS.out.call hb
      clear HS
      have HS := Lib.hid hs; clear hs
      (try simp only [Act.put, List.setIfInBounds_toArray, List.set_cons_zero, List.set_cons_succ])
      clear hb
      refine Draws.either 9 11 rfl rfl (by kernel_rfl) rfl rfl (fun K hK => ?_) (fun K hK => ?_)
      · skip
        go_simp
        go_at_call 43
        refine (rjoin_any (seg R 16 16) (seg T 16 16) HR1.out HT1.out _).mono ?_
        rintro e u ⟨rfl, hb⟩
        (try dsimp only)
        refine hK.out _ _ (fun _ => HS.out.call hb) ?_
        clear hK K
        have hs : (fun u => KeepR w [(bZ, 26, zer 288), (bT, 26, T), (bR, 26, R)] u) u := HS.out.call hb
        clear HS
        have HS := Lib.hid hs; clear hs
        (try simp only [Act.put, List.setIfInBounds_toArray, List.set_cons_zero, List.set_cons_succ])
        clear hb
        refine Draws.take 10 HS.out rfl (by kernel_rfl) (fun _ _ _ h => absurd h.1 (by simp)) (yield_build_r rfl _ _ rfl rfl rfl HJ0.out HJ1.out) ?_
        (try simp only [Act.put, List.setIfInBounds_toArray, List.set_cons_zero, List.set_cons_succ])
        refine Draws.does 11 rfl (by kernel_rfl) rfl (fun K hK => ?_)
        refine wp_alloc_zero HS.out 288 r_zero rfl ?_
        intro b5 u hx hb
        have HX := Lib.hid hx; clear hx
        refine hK.out _ _ (fun _ => HS.out.call hb) ?_
        clear hK K
        have hs : (fun u => KeepR w [(bZ, 26, zer 288), (bT, 26, T), (bR, 26, R)] u) u := HS.out.call hb
        clear HS
        have HS := Lib.hid hs; clear hs
        (try simp only [Act.put, List.setIfInBounds_toArray, List.set_cons_zero, List.set_cons_succ])
        clear hb
        refine Draws.does 12 rfl (by kernel_rfl) rfl (fun K hK => ?_)
        refine wp_store_part HX.out 0 288 r_info rfl _ _ rfl rfl rfl rfl (by rw [splice_length, splice_length, zer_length]) (by rw [zer_length]; omega) ?_
        intro u hk
        rw [splice_all (by rw [splice_length, splice_length]), H2.out] at hk
        refine hK.out _ _ (fun h => absurd h (by omega)) ?_
        refine Draws.done (by kernel_rfl) ⟨rfl, b5, rfl, hk⟩
      · skip
        refine wp_alloc_zero HS.out 288 r_zero rfl ?_
        intro b5 u hx hb
        have HX := Lib.hid hx; clear hx
        refine hK.out _ _ (fun _ => HS.out.call hb) ?_
        clear hK K
        have hs : (fun u => KeepR w [(bZ, 26, zer 288), (bT, 26, T), (bR, 26, R)] u) u := HS.out.call hb
        clear HS
        have HS := Lib.hid hs; clear hs
        (try simp only [Act.put, List.setIfInBounds_toArray, List.set_cons_zero, List.set_cons_succ])
        clear hb
        refine Draws.does 9 rfl (by kernel_rfl) rfl (fun K hK => ?_)
        go_simp
        go_at_call 43
        refine (rjoin_any (seg R 16 16) (seg T 16 16) HR1.out HT1.out _).mono ?_
        rintro e u ⟨rfl, hb⟩
        (try dsimp only)
        have hx := HX.out.call hb
        clear HX
        have HX := Lib.hid hx; clear hx
        refine hK.out _ _ (fun _ => HS.out.call hb) ?_
        clear hK K
        have hs : (fun u => KeepR w [(bZ, 26, zer 288), (bT, 26, T), (bR, 26, R)] u) u := HS.out.call hb
        clear HS
        have HS := Lib.hid hs; clear hs
        (try simp only [Act.put, List.setIfInBounds_toArray, List.set_cons_zero, List.set_cons_succ])
        clear hb
        refine Draws.take 10 HS.out rfl (by kernel_rfl) (fun _ _ _ h => absurd h.1 (by simp)) (yield_build_r rfl _ _ rfl rfl rfl HJ0.out HJ1.out) ?_
        (try simp only [Act.put, List.setIfInBounds_toArray, List.set_cons_zero, List.set_cons_succ])
        refine Draws.does 12 rfl (by kernel_rfl) rfl (fun K hK => ?_)
        refine wp_store_part HX.out 0 288 r_info rfl _ _ rfl rfl rfl rfl (by rw [splice_length, splice_length, zer_length]) (by rw [zer_length]; omega) ?_
        intro u hk
        rw [splice_all (by rw [splice_length, splice_length]), H2.out] at hk
        refine hK.out _ _ (fun h => absurd h (by omega)) ?_
        refine Draws.done (by kernel_rfl) ⟨rfl, b5, rfl, hk⟩
    · skip
      refine wp_alloc_zero HS.out 288 r_zero rfl ?_
      intro b5 u hx hb
      have HX := Lib.hid hx; clear hx
      refine hK.out _ _ (fun _ => HS.out.call hb) ?_
      clear hK K
      have hs : (fun u => KeepR w [(bZ, 26, zer 288), (bT, 26, T), (bR, 26, R)] u) u := HS.out.call hb
      clear HS
      have HS := Lib.hid hs; clear hs
      (try simp only [Act.put, List.setIfInBounds_toArray, List.set_cons_zero, List.set_cons_succ])
      clear hb
      refine Draws.does 4 rfl (by kernel_rfl) rfl (fun K hK => ?_)
      go_simp
      go_at_call 43
      refine (rjoin_any (seg R 0 16) (seg T 0 16) HR0.out HT0.out _).mono ?_
      rintro e u ⟨rfl, hb⟩
      (try dsimp only)
      have hx := HX.out.call hb
      clear HX
      have HX := Lib.hid hx; clear hx
      refine hK.out _ _ (fun _ => HS.out.call hb) ?_
      clear hK K
      have hs : (fun u => KeepR w [(bZ, 26, zer 288), (bT, 26, T), (bR, 26, R)] u) u := HS.out.call hb
      clear HS
      have HS := Lib.hid hs; clear hs
      (try simp only [Act.put, List.setIfInBounds_toArray, List.set_cons_zero, List.set_cons_succ])
      clear hb
      refine Draws.does 9 rfl (by kernel_rfl) rfl (fun K hK => ?_)
      go_simp
      go_at_call 43
      refine (rjoin_any (seg R 16 16) (seg T 16 16) HR1.out HT1.out _).mono ?_
      rintro e u ⟨rfl, hb⟩
      (try dsimp only)
      have hx := HX.out.call hb
      clear HX
      have HX := Lib.hid hx; clear hx
      refine hK.out _ _ (fun _ => HS.out.call hb) ?_
      clear hK K
      have hs : (fun u => KeepR w [(bZ, 26, zer 288), (bT, 26, T), (bR, 26, R)] u) u := HS.out.call hb
      clear HS
      have HS := Lib.hid hs; clear hs
      (try simp only [Act.put, List.setIfInBounds_toArray, List.set_cons_zero, List.set_cons_succ])
      clear hb
      refine Draws.take 10 HS.out rfl (by kernel_rfl) (fun _ _ _ h => absurd h.1 (by simp)) (yield_build_r rfl _ _ rfl rfl rfl HJ0.out HJ1.out) ?_
      (try simp only [Act.put, List.setIfInBounds_toArray, List.set_cons_zero, List.set_cons_succ])
      refine Draws.does 12 rfl (by kernel_rfl) rfl (fun K hK => ?_)
      refine wp_store_part HX.out 0 288 r_info rfl _ _ rfl rfl rfl rfl (by rw [splice_length, splice_length, zer_length]) (by rw [zer_length]; omega) ?_
      intro u hk
      rw [splice_all (by rw [splice_length, splice_length]), H2.out] at hk
      refine hK.out _ _ (fun h => absurd h (by omega)) ?_
      refine Draws.done (by kernel_rfl) ⟨rfl, b5, rfl, hk⟩
  · rintro a' u ⟨b5, rfl, hk⟩
    clear HK
    have HK := Lib.hid hk; clear hk
    go_wp2_with fail
    go_loopw [6] (fun i wr => ∃ m : Nat, m ≤ 16 ∧ i = .int .i64 m ∧ KeepR w [(b5, 26, mix (32 + m * 16) (joinL R T) (zer 288)), (bZ, 26, zer 288), (bT, 26, T), (bR, 26, R)] wr) (fun i _ => 16 - (intOf i).toNat)
    case atStart => exact ⟨0, by omega, rfl, HK.out⟩
    case round =>
      obtain ⟨m, hm, rfl, hk⟩ := hrel
      clear HK
      have HK := Lib.hid hk
      clear hk
      by_cases hlt : m < 16
      · have HL := Lib.hid (seg_length (R := R) (o := 32 + m * 16) (n := 16) (by have := HR.out; omega))
        have HM := Lib.hid (seg_length (R := T) (o := 32 + m * 16) (n := 16) (by have := HT.out; omega))
        have HE := Lib.hid (HST.out (32 + m * 16) (by omega))
        have HQ := Lib.hid (joinL_len (n := 16) HL.out HM.out)
        have j1 : (0 : Int) ≤ (m : Int) := by omega
        have j2 : (m : Int) < 16 := by omega
        go_wp2_with fail
        refine Draws.start (S := fun u => KeepR w [(bZ, 26, zer 288), (bT, 26, T), (bR, 26, R)] u) (n := 13) 13 rfl (by kernel_rfl) ?_
        have HS := Lib.hid ((HK.out.drew.tail : (fun u => KeepR w [(bZ, 26, zer 288), (bT, 26, T), (bR, 26, R)] u) _))
        refine Draws.take 0 (v := ?v5) HS.out rfl (by kernel_rfl) (fun _ _ _ h => h) (Or.inl ⟨rfl, ?h5⟩) ?r5
        case h5 => intro w' hw'; go_simp; (try with_reducible rfl)
        (try simp only [Act.put, List.setIfInBounds_toArray, List.set_cons_zero, List.set_cons_succ])
        refine Draws.take 1 (v := ?v6) HS.out rfl (by kernel_rfl) (fun _ _ _ h => h) (Or.inl ⟨rfl, ?h6⟩) ?r6
        case h6 => intro w' hw'; go_simp; (try with_reducible rfl)
        (try simp only [Act.put, List.setIfInBounds_toArray, List.set_cons_zero, List.set_cons_succ])
        refine Draws.take 2 (v := ?v7) HS.out rfl (by kernel_rfl) (fun _ _ _ h => h) (Or.inl ⟨rfl, ?h7⟩) ?r7
        case h7 => intro w' hw'; go_simp; (try with_reducible rfl)
        (try simp only [Act.put, List.setIfInBounds_toArray, List.set_cons_zero, List.set_cons_succ])
        refine Draws.take 3 (v := ?v8) HS.out rfl (by kernel_rfl) (fun _ _ _ h => h) (Or.inl ⟨rfl, ?h8⟩) ?r8
        case h8 => intro w' hw'; go_simp; (try with_reducible rfl)
        (try simp only [Act.put, List.setIfInBounds_toArray, List.set_cons_zero, List.set_cons_succ])
        refine Draws.take 4 HS.out rfl (by kernel_rfl) (fun _ _ _ h => h) (yield_part (fun _ h => h) 2 16 Try.underlying23 rfl vec_info rfl _ rfl rfl rfl (by have := HR.out; omega)) ?_
        (try simp only [Act.put, List.setIfInBounds_toArray, List.set_cons_zero, List.set_cons_succ])
        refine Draws.take 5 (v := ?v9) HS.out rfl (by kernel_rfl) (fun _ _ _ h => h) (Or.inl ⟨rfl, ?h9⟩) ?r9
        case h9 => intro w' hw'; go_simp; (try with_reducible rfl)
        (try simp only [Act.put, List.setIfInBounds_toArray, List.set_cons_zero, List.set_cons_succ])
        refine Draws.take 6 (v := ?v10) HS.out rfl (by kernel_rfl) (fun _ _ _ h => h) (Or.inl ⟨rfl, ?h10⟩) ?r10
        case h10 => intro w' hw'; go_simp; (try with_reducible rfl)
        (try simp only [Act.put, List.setIfInBounds_toArray, List.set_cons_zero, List.set_cons_succ])
        refine Draws.take 7 (v := ?v11) HS.out rfl (by kernel_rfl) (fun _ _ _ h => h) (Or.inl ⟨rfl, ?h11⟩) ?r11
        case h11 => intro w' hw'; go_simp; (try with_reducible rfl)
        (try simp only [Act.put, List.setIfInBounds_toArray, List.set_cons_zero, List.set_cons_succ])
        refine Draws.take 8 HS.out rfl (by kernel_rfl) (fun _ _ _ h => h) (yield_part (fun _ h => h) 1 16 Try.underlying23 rfl vec_info rfl _ rfl rfl rfl (by have := HT.out; omega)) ?_
        (try simp only [Act.put, List.setIfInBounds_toArray, List.set_cons_zero, List.set_cons_succ])
        refine Draws.take 10 (v := ?v12) HS.out rfl (by kernel_rfl) (fun _ _ _ h => h) (Or.inl ⟨rfl, ?h12⟩) ?r12
        case h12 => intro w' hw'; go_simp; (try with_reducible rfl)
        (try simp only [Act.put, List.setIfInBounds_toArray, List.set_cons_zero, List.set_cons_succ])
        refine Draws.does 9 rfl (by kernel_rfl) rfl (fun K hK => ?_)
        go_simp
        go_at_call 43
        refine (rjoin_any (seg R (32 + m * 16) 16) (seg T (32 + m * 16) 16) HL.out HM.out _).mono ?_
        rintro e u ⟨rfl, hb⟩
        (try dsimp only)
        have hk := HK.out.drew.call hb
        clear HK
        have HK := Lib.hid hk; clear hk
        refine hK.out _ _ (fun _ => HK.out.tail) ?_
        clear hK K
        have hs : (fun u => KeepR w [(bZ, 26, zer 288), (bT, 26, T), (bR, 26, R)] u) u := HK.out.tail
        clear HS
        have HS := Lib.hid hs; clear hs
        (try simp only [Act.put, List.setIfInBounds_toArray, List.set_cons_zero, List.set_cons_succ])
        clear hb
        refine Draws.take 11 (v := ?v13) HS.out rfl (by kernel_rfl) (fun _ _ _ h => h) (Or.inl ⟨rfl, ?h13⟩) ?r13
        case h13 => intro w' hw'; go_simp; (try with_reducible rfl)
        (try simp only [Act.put, List.setIfInBounds_toArray, List.set_cons_zero, List.set_cons_succ])
        refine Draws.does 12 rfl (by kernel_rfl) rfl (fun K hK => ?_)
        refine wp_store_part HK.out 0 16 vec_info rfl _ _ rfl rfl rfl rfl HQ.out (by rw [HML.out, zer_length]; omega) ?_
        intro u hk
        rw [HE.out] at hk
        simp only [List.set_cons_zero] at hk
        refine hK.out _ _ (fun _ => hk.tail) ?_
        clear hK K HS HK
        have HK := Lib.hid hk; clear hk
        refine Draws.done (by kernel_rfl) ?_
        go_wp2
        go_roundw
        case rel => exact ⟨m + 1, by omega, by go_num, by have h := HK.out; rw [show 32 + m * 16 + 16 = 32 + (m + 1) * 16 by omega] at h; exact h⟩
        case measure => simp [intOf]; omega
      · obtain rfl : m = 16 := by omega
        have hk := HK.out
        rw [show 32 + 16 * 16 = 288 from rfl, mix_all (by rw [HJ.out, zer_length]) (by rw [zer_length]; omega)] at hk
        clear HK
        have HK := Lib.hid hk; clear hk
        go_wp2_with (first
          | (with_reducible refine load_all HK.out 0 288 Try.underlying26 rfl r_info rfl _ rfl rfl rfl HJ.out ?_)
          | (with_reducible refine store_all HK.out 1 288 r_info rfl rfl _ _ rfl rfl rfl rfl HJ.out (zer_length 288) ?_; intro u hk hs; clear hs; simp only [List.set_cons_zero, List.set_cons_succ] at hk; clear HK; have HK := Lib.hid hk; clear hk))
        exact bodyPost_ret (results_r rfl Try.underlying26 rfl r_info _ HK.out 1 rfl rfl HJ.out) rfl ⟨rfl, HK.out.bel⟩

set_option maxHeartbeats 1000000 in
theorem rover2_r (R T : List Int) (hR : R.length = 288) (hT : T.length = 288) (w : World) :
    Calls Try.prog 27 #[.agg (vals R).toArray, .agg (vals T).toArray] w fun e w' => e = .returned (.bool (overB R T)) ∧ Below w.heap.size w w' := by
  have heq := eql_r (joinL R T) R (joinL_len hR hT) hR
  rw [show (joinL R T == R) = overB R T from rfl] at heq
  have hge : Try.prog.eqGuardType Try.prog.depth 26 = false := by kernel_rfl
  have HR := Lib.hid hR; clear hR
  have HT := Lib.hid hT; clear hT
  have HK := Lib.hid (KeepR.start w)
  go_enter Try.func27, Try.ntmps27
  go_wp2_with (first
    | (with_reducible refine box_new (R := R) HK.out rfl _ rfl rfl ?_; intro bR u hk hb; clear hb; clear HK; have HK := Lib.hid hk; clear hk)
    | (with_reducible refine box_new (R := T) HK.out rfl _ rfl rfl ?_; intro bT u hk hb; clear hb; clear HK; have HK := Lib.hid hk; clear hk))
  refine Draws.start (S := fun u => KeepR w [(bT, 26, T), (bR, 26, R)] u) (n := 6) 6 rfl (by kernel_rfl) ?_
  have HS := Lib.hid ((HK.out.drew : (fun u => KeepR w [(bT, 26, T), (bR, 26, R)] u) _))
  refine Draws.take 0 HS.out rfl (by kernel_rfl) (fun _ _ _ h => h) (yield_all (fun _ h => h) 1 288 Try.underlying26 rfl r_info rfl _ rfl rfl rfl HR.out) ?_
  (try simp only [Act.put, List.setIfInBounds_toArray, List.set_cons_zero, List.set_cons_succ])
  refine Draws.take 1 HS.out rfl (by kernel_rfl) (fun _ _ _ h => h) (yield_all (fun _ h => h) 0 288 Try.underlying26 rfl r_info rfl _ rfl rfl rfl HT.out) ?_
  (try simp only [Act.put, List.setIfInBounds_toArray, List.set_cons_zero, List.set_cons_succ])
  refine Draws.take 3 HS.out rfl (by kernel_rfl) (fun _ _ _ h => h) (yield_all (fun _ h => h) 1 288 Try.underlying26 rfl r_info rfl _ rfl rfl rfl HR.out) ?_
  (try simp only [Act.put, List.setIfInBounds_toArray, List.set_cons_zero, List.set_cons_succ])
  refine Draws.does 2 rfl (by kernel_rfl) rfl (fun K hK => ?_)
  go_simp
  go_at_call 25
  refine (rjoin_r R T HR.out HT.out _).mono ?_
  rintro e u ⟨rfl, hb⟩
  (try dsimp only)
  refine hK.out _ _ (fun _ => HS.out.call hb) ?_
  clear hK K
  have hs : (fun u => KeepR w [(bT, 26, T), (bR, 26, R)] u) u := HS.out.call hb
  clear HS
  have HS := Lib.hid hs; clear hs
  (try simp only [Act.put, List.setIfInBounds_toArray, List.set_cons_zero, List.set_cons_succ])
  clear hb
  refine Draws.take 4 (v := ?v14) HS.out rfl (by kernel_rfl) (fun _ _ _ h => h) (Or.inl ⟨rfl, ?h14⟩) ?r14
  case h14 => intro w' hw'; go_simp; (try with_reducible rfl)
  (try simp only [Act.put, List.setIfInBounds_toArray, List.set_cons_zero, List.set_cons_succ])
  refine Draws.take 5 (v := ?v15) HS.out rfl (by kernel_rfl) (fun _ _ _ h => h) (Or.inl ⟨rfl, ?h15⟩) ?r15
  case h15 => intro w' hw'; go_simp; (try with_reducible rfl)
  (try simp only [Act.put, List.setIfInBounds_toArray, List.set_cons_zero, List.set_cons_succ])
  refine Draws.done (by kernel_rfl) ?_
  go_wp2
  go_ret
  exact ⟨rfl, HS.out.bel⟩
end Go.Proofs.Ytpbjencigepnfaa
