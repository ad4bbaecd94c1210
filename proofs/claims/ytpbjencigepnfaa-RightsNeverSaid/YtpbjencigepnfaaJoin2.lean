/- A contract of rights.Join. -/
import Derived.Test.YtpbjencigepnfaaJoin1
namespace Go.Proofs.Ytpbjencigepnfaa
open Go.ChangeShapes Go.WideShapes Go.ChangeAt Go.RowKit

theorem KeepR.sub {w u : World} {l l' : List (Nat × TypeId × List Int)} (h : KeepR w l u) (hs : l'.Sublist l) : KeepR w l' u :=
  ⟨h.bel, fun x hx => h.blk x (hs.subset hx), h.apart.sublist (hs.map _)⟩
theorem join_step {R T : List Int} (hR : R.length = 288) (hT : T.length = 288) {m : Nat} (hm : m + 16 ≤ 288) : splice (mix m (joinL R T) R) m (joinL (seg (mix m (joinL R T) R) m 16) (seg T m 16)) = mix (m + 16) (joinL R T) R := by
  have hJ := joinL_len hR hT
  rw [mix_rest (by omega) (by omega), seg_join (by omega) (by omega), mix_splice (by omega) (by omega)]

set_option maxHeartbeats 1000000 in
theorem join_r (R T : List Int) (hR : R.length = 288) (hT : T.length = 288) (w : World) :
    Calls Try.prog 24 #[.agg (vals R).toArray, .agg (vals T).toArray] w fun e w' => e = .returned (.agg (vals (joinL R T)).toArray) ∧ Below w.heap.size w w' := by
  have HJ := Lib.hid (joinL_len hR hT)
  have HST := Lib.hid (fun m (hm : m + 16 ≤ 288) => join_step hR hT (m := m) hm)
  have h0 := join_step hR hT (m := 0) (by omega)
  rw [mix_zero] at h0
  have H0 := Lib.hid h0; clear h0
  have HML := Lib.hid (fun m => mix_length (zs := joinL R T) (xs := R) (by rw [joinL_len hR hT, hR]) m)
  have HS0 := Lib.hid (seg_length (R := T) (o := 0) (n := 16) (by omega))
  have HS1 := Lib.hid (seg_length (R := T) (o := 16) (n := 16) (by omega))
  have HSM := Lib.hid (seg_length (R := T) (o := 32) (n := 256) (by omega))
  have HR := Lib.hid hR; clear hR
  have HT := Lib.hid hT; clear hT
  have HK := Lib.hid (KeepR.start w)
  go_enter Try.func24, Try.ntmps24
  go_wp2_with (first
    | (with_reducible refine box_new (R := R) HK.out rfl _ rfl rfl ?_; intro bR u hk hb; clear hb; clear HK; have HK := Lib.hid hk; clear hk)
    | (with_reducible refine box_new (R := T) HK.out rfl _ rfl rfl ?_; intro bT u hk hb; clear hb; clear HK; have HK := Lib.hid hk; clear hk)
    | (with_reducible refine alloc_zero HK.out 288 r_zero rfl rfl ?_; intro bZ u hn hk hb; clear hn hb; clear HK; have HK := Lib.hid hk; clear hk)
    | (with_reducible refine load_part HK.out 1 16 Try.underlying23 rfl vec_info rfl _ rfl rfl rfl (by have := HT.out; omega) ?_)
    | (go_at_call 41; (with_reducible refine (join1_any _ 0 _ R (seg T 0 16) (by have := HR.out; omega) HS0.out _ (HK.out.get 2 rfl)).mono ?_); rintro e u ⟨rfl, u1, hb, hu⟩; have hk := (HK.out.call hb).setCells 2 rfl 0 (joinL (seg R 0 16) (seg T 0 16)); rw [← hu, H0.out] at hk; clear hu hb; simp only [List.set_cons_zero, List.set_cons_succ] at hk; clear HK; have HK := Lib.hid hk; clear hk)
    | (go_at_call 41; (with_reducible refine (join1_any _ 16 _ (mix 16 (joinL R T) R) (seg T 16 16) (by rw [HML.out, HR.out]; omega) HS1.out _ (HK.out.get 2 rfl)).mono ?_); rintro e u ⟨rfl, u1, hb, hu⟩; have hk := (HK.out.call hb).setCells 2 rfl 16 (joinL (seg (mix 16 (joinL R T) R) 16 16) (seg T 16 16)); rw [← hu, HST.out 16 (by omega)] at hk; clear hu hb; simp only [List.set_cons_zero, List.set_cons_succ] at hk; clear HK; have HK := Lib.hid hk; clear hk)
    | (with_reducible refine load_part HK.out 1 256 Try.underlying24 rfl m_info rfl _ rfl rfl rfl (by have := HT.out; omega) ?_))
  go_loopw [20] (fun i wr => ∃ m : Nat, m ≤ 16 ∧ i = .int .i64 m ∧ KeepR w [(bZ, 26, zer 288), (bT, 26, T), (bR, 26, mix (32 + m * 16) (joinL R T) R)] wr) (fun i _ => 16 - (intOf i).toNat)
  case atStart => exact ⟨0, by omega, rfl, HK.out⟩
  case round =>
    obtain ⟨m, hm, rfl, hk⟩ := hrel
    clear HK
    have HK := Lib.hid hk
    clear hk
    by_cases hlt : m < 16
    · have hix : ∀ W : World, (Instr.index 24 (.agg (vals (seg T 32 256)).toArray) (.int .i64 (m : Int))).run Try.prog W = .ok (.agg (vals (seg (seg T 32 256) (m * 16) 16)).toArray) W := fun W => index_row HSM.out hlt W
      rw [show seg (seg T 32 256) (m * 16) 16 = seg T (32 + m * 16) 16 from seg_seg (by omega)] at hix
      have HL := Lib.hid (seg_length (R := T) (o := 32 + m * 16) (n := 16) (by have := HT.out; omega))
      have HE := Lib.hid (HST.out (32 + m * 16) (by omega))
      have j1 : (0 : Int) ≤ (m : Int) := by omega
      have j2 : (m : Int) < 16 := by omega
      go_wp2_with (first
        | (with_reducible refine alloc_zero HK.out 16 v_zero rfl rfl ?_; intro b7 u hn hk hb; clear hn hb; clear HK; have HK := Lib.hid hk; clear hk)
        | (with_reducible refine store_all HK.out 0 16 vec_info rfl rfl _ _ rfl rfl rfl rfl HL.out (zer_length 16) ?_; intro u hk hs; clear hs; simp only [List.set_cons_zero] at hk; clear HK; have HK := Lib.hid hk; clear hk))
      refine Draws.start (S := fun u => KeepR w [(b7, 23, seg T (32 + m * 16) 16), (bZ, 26, zer 288), (bT, 26, T)] u) (n := 6) 6 rfl (by kernel_rfl) ?_
      have HS := Lib.hid ((HK.out.drew.sub (List.sublist_append_left _ [_]) : (fun u => KeepR w [(b7, 23, seg T (32 + m * 16) 16), (bZ, 26, zer 288), (bT, 26, T)] u) _))
      refine Draws.take 0 (v := ?v0) HS.out rfl (by kernel_rfl) (fun _ _ _ h => h) (Or.inl ⟨rfl, ?h0⟩) ?r0
      case h0 => intro w' hw'; go_simp; (try with_reducible rfl)
      (try simp only [Act.put, List.setIfInBounds_toArray, List.set_cons_zero, List.set_cons_succ])
      refine Draws.take 1 (v := ?v1) HS.out rfl (by kernel_rfl) (fun _ _ _ h => h) (Or.inl ⟨rfl, ?h1⟩) ?r1
      case h1 => intro w' hw'; go_simp; (try with_reducible rfl)
      (try simp only [Act.put, List.setIfInBounds_toArray, List.set_cons_zero, List.set_cons_succ])
      refine Draws.take 2 (v := ?v2) HS.out rfl (by kernel_rfl) (fun _ _ _ h => h) (Or.inl ⟨rfl, ?h2⟩) ?r2
      case h2 => intro w' hw'; go_simp; (try with_reducible rfl)
      (try simp only [Act.put, List.setIfInBounds_toArray, List.set_cons_zero, List.set_cons_succ])
      refine Draws.take 3 (v := ?v3) HS.out rfl (by kernel_rfl) (fun _ _ _ h => h) (Or.inl ⟨rfl, ?h3⟩) ?r3
      case h3 => intro w' hw'; go_simp; (try with_reducible rfl)
      (try simp only [Act.put, List.setIfInBounds_toArray, List.set_cons_zero, List.set_cons_succ])
      refine Draws.take 4 HS.out rfl (by kernel_rfl) (fun _ _ _ h => h) (yield_all (fun _ h => h) 0 16 Try.underlying23 rfl vec_info rfl _ rfl rfl rfl HL.out) ?_
      (try simp only [Act.put, List.setIfInBounds_toArray, List.set_cons_zero, List.set_cons_succ])
      refine Draws.does 5 rfl (by kernel_rfl) rfl (fun K hK => ?_)
      go_simp
      go_at_call 41
      refine (join1_any _ (32 + m * 16) _ (mix (32 + m * 16) (joinL R T) R) (seg T (32 + m * 16) 16) (by rw [HML.out, HR.out]; omega) HL.out _ (HK.out.drew.get 3 rfl)).mono ?_
      rintro e u ⟨rfl, u1, hb, hu⟩
      (try dsimp only)
      have hk := (HK.out.drew.call hb).setCells 3 rfl (32 + m * 16) (joinL (seg (mix (32 + m * 16) (joinL R T) R) (32 + m * 16) 16) (seg T (32 + m * 16) 16))
      rw [← hu, HE.out] at hk
      simp only [List.set_cons_zero, List.set_cons_succ] at hk
      clear HK hu hb
      have HK := Lib.hid hk; clear hk
      refine hK.out _ _ (fun _ => HK.out.sub (List.sublist_append_left _ [_])) ?_
      clear hK K
      have hs : (fun u => KeepR w [(b7, 23, seg T (32 + m * 16) 16), (bZ, 26, zer 288), (bT, 26, T)] u) u := HK.out.sub (List.sublist_append_left _ [_])
      clear HS
      have HS := Lib.hid hs; clear hs
      (try simp only [Act.put, List.setIfInBounds_toArray, List.set_cons_zero, List.set_cons_succ])
      refine Draws.done (by kernel_rfl) ?_
      go_wp2
      go_roundw
      case rel => exact ⟨m + 1, by omega, by go_num, by have h := HK.out.tail; rw [show 32 + m * 16 + 16 = 32 + (m + 1) * 16 by omega] at h; exact h⟩
      case measure => simp [intOf]; omega
    · obtain rfl : m = 16 := by omega
      have hk := HK.out
      rw [show 32 + 16 * 16 = 288 from rfl, mix_all (by rw [HJ.out, HR.out]) (by rw [HR.out]; omega)] at hk
      clear HK
      have HK := Lib.hid hk; clear hk
      go_wp2_with (first
        | (with_reducible refine load_all HK.out 2 288 Try.underlying26 rfl r_info rfl _ rfl rfl rfl HJ.out ?_)
        | (with_reducible refine store_all HK.out 0 288 r_info rfl rfl _ _ rfl rfl rfl rfl HJ.out (zer_length 288) ?_; intro u hk hs; clear hs; simp only [List.set_cons_zero] at hk; clear HK; have HK := Lib.hid hk; clear hk))
      exact bodyPost_ret (results_r rfl Try.underlying26 rfl r_info _ HK.out 0 rfl rfl HJ.out) rfl ⟨rfl, HK.out.bel⟩
end Go.Proofs.Ytpbjencigepnfaa
