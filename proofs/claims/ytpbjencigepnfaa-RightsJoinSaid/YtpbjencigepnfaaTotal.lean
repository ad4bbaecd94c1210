/- Contracts of rights.Total, and the document's Free and Total. -/
import Derived.Test.YtpbjencigepnfaaRefSum
import Derived.Test.YtpbjencigepnfaaFree
namespace Go.Proofs.Ytpbjencigepnfaa
open Go.ChangeShapes Go.WideShapes Go.ChangeAt Go.RowKit

/-- All that was given, then less all that was used. -/
def totL (R : List Int) : List Int := seg R 0 16 ++ negs (seg R 16 16)

set_option maxHeartbeats 1000000 in
theorem total_any (R : List Int) (hR : R.length = 288) (w : World) :
    Calls Try.prog 13 #[.agg (vals R).toArray] w fun e w' => e = .returned (.tuple #[.int .i64 (sumN (totL R)), .int .i64 (sumE (totL R))]) ∧ Below w.heap.size w w' := by
  have HR := Lib.hid hR; clear hR
  have HK := Lib.hid (KeepR.start w)
  go_enter Try.func13, Try.ntmps13
  go_wp2_with (first
    | (with_reducible refine box_new HK.out rfl _ rfl rfl ?_; intro b u hk hb; clear hb; clear HK; have HK := Lib.hid hk; clear hk))
  refine Draws.start (S := fun u => KeepR w [(b, 26, R)] u) (n := 12) 12 rfl (by kernel_rfl) ?_
  have HS := Lib.hid ((HK.out.drew : (fun u => KeepR w [(b, 26, R)] u) _))
  refine Draws.take 0 (v := ?v0) HS.out rfl (by kernel_rfl) (fun _ _ _ h => h) (Or.inl ⟨rfl, ?h0⟩) ?r0
  case h0 => intro w' hw'; go_simp; (try with_reducible rfl)
  (try simp only [Act.put, List.setIfInBounds_toArray, List.set_cons_zero, List.set_cons_succ])
  refine Draws.take 1 (v := ?v1) HS.out rfl (by kernel_rfl) (fun _ _ _ h => h) (Or.inl ⟨rfl, ?h1⟩) ?r1
  case h1 => intro w' hw'; go_simp; (try with_reducible rfl)
  (try simp only [Act.put, List.setIfInBounds_toArray, List.set_cons_zero, List.set_cons_succ])
  refine Draws.take 2 (v := ?v2) HS.out rfl (by kernel_rfl) (fun _ _ _ h => h) (Or.inl ⟨rfl, ?h2⟩) ?r2
  case h2 => intro w' hw'; go_simp; (try with_reducible rfl)
  (try simp only [Act.put, List.setIfInBounds_toArray, List.set_cons_zero, List.set_cons_succ])
  refine Draws.take 3 (v := ?v3) HS.out rfl (by kernel_rfl) (fun _ _ _ h => h) (Or.inl ⟨rfl, ?h3⟩) ?r3
  case h3 => intro w' hw'; go_simp; (try with_reducible rfl)
  (try simp only [Act.put, List.setIfInBounds_toArray, List.set_cons_zero, List.set_cons_succ])
  refine Draws.does 4 rfl (by kernel_rfl) rfl (fun K hK => ?_)
  go_simp
  go_at_call 32
  refine (less_any b 16 16 16 (seg R 16 16) (by omega) _ (reads_seg (HS.out.get 0 rfl) (by have := HR.out; omega) (by omega)) (by omega)).mono ?_
  rintro e u ⟨b2, rfl, hk⟩
  (try dsimp only)
  have hb := hk.bel
  have HY := Lib.hid ((hk.get 0 rfl).readsAll (n := 16) (by rw [negs_length, seg_length (by have := HR.out; omega)]) (by omega))
  refine hK.out _ _ (fun _ => HS.out.call hb) ?_
  clear hK K
  have hs : (fun u => KeepR w [(b, 26, R)] u) u := HS.out.call hb
  clear HS
  have HS := Lib.hid hs; clear hs
  (try simp only [Act.put, List.setIfInBounds_toArray, List.set_cons_zero, List.set_cons_succ])
  clear hk hb
  refine Draws.does 5 rfl (by kernel_rfl) rfl (fun K hK => ?_)
  refine wp_build2 _ _ rfl rfl rfl (reads_seg (HS.out.get 0 rfl) (by have := HR.out; omega) (by omega)) HY.out ?_
  intro b4 u hp hb
  have HP := Lib.hid hp
  clear hp
  refine hK.out _ _ (fun _ => HS.out.call hb) ?_
  clear hK K
  have hs : (fun u => KeepR w [(b, 26, R)] u) u := HS.out.call hb
  clear HS
  have HS := Lib.hid hs; clear hs
  (try simp only [Act.put, List.setIfInBounds_toArray, List.set_cons_zero, List.set_cons_succ])
  clear hb HY
  obtain ⟨L, hL⟩ : ∃ L : List IntPart, L = [(some ⟨b, 0, none⟩, 16, 16, seg R 0 16), (some ⟨b2, 0, none⟩, 16, 16, negs (seg R 16 16))] := ⟨_, rfl⟩
  have hp := HP.out
  change PartsAt _ b4 [(some ⟨b, 0, none⟩, 16, 16, seg R 0 16), (some ⟨b2, 0, none⟩, 16, 16, negs (seg R 16 16))] at hp
  rw [← hL] at hp
  clear HP
  have HP := Lib.hid hp; clear hp
  have e0 : partL L = totL R := by rw [hL]; simp [partL, totL]
  have e3 : partN L = 32 := by rw [hL]; rfl
  have e4 : 2 = L.length := by rw [hL]; rfl
  have HE := Lib.hid e0; have HN := Lib.hid e3; have HM := Lib.hid e4
  clear e0 e3 e4 hL
  have hcc := concat_any b4 2 L (by rw [HN.out]; omega) (by rw [HN.out]; omega) (by rw [← HM.out]; omega) _ HP.out
  rw [← HM.out, HN.out, HE.out] at hcc
  have HCC := Lib.hid hcc; clear hcc
  refine Draws.does 6 rfl (by kernel_rfl) rfl (fun K hK => ?_)
  go_simp
  go_at_call 31
  refine (HCC.out).mono ?_
  rintro e u ⟨A2, c2, rfl, hr, hb⟩
  (try dsimp only)
  have HX := Lib.hid hr
  refine hK.out _ _ (fun _ => HS.out.call hb) ?_
  clear hK K
  have hs : (fun u => KeepR w [(b, 26, R)] u) u := HS.out.call hb
  clear HS
  have HS := Lib.hid hs; clear hs
  (try simp only [Act.put, List.setIfInBounds_toArray, List.set_cons_zero, List.set_cons_succ])
  clear hr hb
  refine Draws.does 7 rfl (by kernel_rfl) rfl (fun K hK => ?_)
  go_simp
  go_at_call 30
  refine (sum_any A2 32 c2 (totL R) _ HX.out).mono ?_
  rintro e u ⟨rfl, hb⟩
  (try dsimp only)
  refine hK.out _ _ (fun _ => HS.out.call hb) ?_
  clear hK K
  have hs : (fun u => KeepR w [(b, 26, R)] u) u := HS.out.call hb
  clear HS
  have HS := Lib.hid hs; clear hs
  (try simp only [Act.put, List.setIfInBounds_toArray, List.set_cons_zero, List.set_cons_succ])
  clear hb
  refine Draws.take 8 (v := ?v8) HS.out rfl (by kernel_rfl) (fun _ _ _ h => h) (Or.inl ⟨rfl, ?h8⟩) ?r8
  case h8 => intro w' hw'; go_simp; (try with_reducible rfl)
  (try simp only [Act.put, List.setIfInBounds_toArray, List.set_cons_zero, List.set_cons_succ])
  refine Draws.take 9 (v := ?v9) HS.out rfl (by kernel_rfl) (fun _ _ _ h => h) (Or.inl ⟨rfl, ?h9⟩) ?r9
  case h9 => intro w' hw'; go_simp; (try with_reducible rfl)
  (try simp only [Act.put, List.setIfInBounds_toArray, List.set_cons_zero, List.set_cons_succ])
  refine Draws.take 10 (v := ?v10) HS.out rfl (by kernel_rfl) (fun _ _ _ h => h) (Or.inl ⟨rfl, ?h10⟩) ?r10
  case h10 => intro w' hw'; go_simp; (try with_reducible rfl)
  (try simp only [Act.put, List.setIfInBounds_toArray, List.set_cons_zero, List.set_cons_succ])
  refine Draws.take 11 (v := ?v11) HS.out rfl (by kernel_rfl) (fun _ _ _ h => h) (Or.inl ⟨rfl, ?h11⟩) ?r11
  case h11 => intro w' hw'; go_simp; (try with_reducible rfl)
  (try simp only [Act.put, List.setIfInBounds_toArray, List.set_cons_zero, List.set_cons_succ])
  refine Draws.done (by kernel_rfl) ?_
  go_wp2
  go_ret2
  exact ⟨rfl, HS.out.bel⟩

theorem rtotal_any (R : List Int) (hR : R.length = 288) (w : World) :
    Calls Try.prog 14 #[.agg (vals R).toArray] w fun e w' => e = .returned (.tuple #[.int .i64 (sumN (totL R)), .int .i64 (sumE (totL R))]) ∧ Below w.heap.size w w' := by
  have HR := Lib.hid hR
  have HG := Lib.hid (seg_length (R := R) (o := 0) (n := 16) (by omega))
  have HU := Lib.hid (seg_length (R := R) (o := 16) (n := 16) (by omega))
  clear hR
  have HK := Lib.hid (KeepR.start w)
  go_enter Try.func14, Try.ntmps14
  go_wp2_with (first
    | (with_reducible refine box_new HK.out rfl _ rfl rfl ?_; intro b u hk hb; clear hb; clear HK; have HK := Lib.hid hk; clear hk))
  go_loopw [4, 5] (fun v i wr => ∃ m : Nat, m ≤ 16 ∧ i = .int .i64 m ∧ KeepR w [(b, 26, R)] wr ∧ wr.ownsRow w.heap.size 3 1 v m (vals ((seg R 0 16).take m))) (fun _ i _ => 16 - (intOf i).toNat)
  case atStart => exact ⟨0, by omega, rfl, HK.out, World.ownsRow_nil _ _ _ _⟩
  case round =>
    obtain ⟨m, hm, rfl, hk, ho⟩ := hrel
    clear HK
    have HK := Lib.hid hk; have HO := Lib.hid ho
    clear hk ho
    by_cases hlt : m < 16
    · have hc1 := (HK.out.get 0 rfl).cell (k := m) (by have := HR.out; omega)
      have hst := take_snoc (xs := seg R 0 16) (k := m) (by rw [HG.out]; omega)
      rw [seg_get hlt, Nat.zero_add] at hst
      generalize R.getD m 0 = x at hc1 hst
      have HT := Lib.hid hst; clear hst
      have j1 : (0 : Int) ≤ (m : Int) := by omega
      have j2 : (m : Int) < 16 := by omega
      go_wp2_with (first
        | (with_reducible refine build1 HK.out rfl _ rfl rfl ?_; intro b1 u hk hb; clear hc1; have ho := own_below HO.out hb; clear hb HO; have HO := Lib.hid ho; clear ho; have HX := Lib.hid ((hk.get 0 rfl).readsAll (n := 1) rfl (by omega)); have hk1 := hk.tail; clear hk; have hk := hk1; clear hk1; clear HK; have HK := Lib.hid hk; clear hk)
        | (refine wpList_append_ints rfl _ _ rfl w.heap.size _ (m) ((seg R 0 16).take m) rfl HO.out _ 1 1 [x] rfl HX.out (by omega) HK.out.bel.size ?_; intro v' u ho hg hv; have hk := HK.out.grown HO.out (by simp) hg; clear HO HX hg hv; have HO := Lib.hid ho; clear ho; clear HK; have HK := Lib.hid hk; clear hk))
      go_roundw
      case rel => exact ⟨m + 1, by omega, by go_num, HK.out, by have h3 := HO.out; rw [← HT.out] at h3; exact h3⟩
      case measure => simp [intOf]; omega
    · obtain rfl : m = 16 := by omega
      simp only [show ((16 : Nat) : Int) = 16 from rfl]
      have ho := HO.out
      rw [List.take_of_length_le (by rw [HG.out]; omega)] at ho
      clear HO
      have HO := Lib.hid ho; clear ho
      go_wp2_with fail
      go_loopw [4, 6] (fun v i wr => ∃ m : Nat, m ≤ 16 ∧ i = .int .i64 m ∧ KeepR w [(b, 26, R)] wr ∧ wr.ownsRow w.heap.size 3 1 v (16 + m) (vals (seg R 0 16 ++ (negs (seg R 16 16)).take m))) (fun _ i _ => 16 - (intOf i).toNat)
      case atStart => exact ⟨0, by omega, rfl, HK.out, by simpa using HO.out⟩
      case round =>
        obtain ⟨m, hm, rfl, hk, ho⟩ := hrel
        clear HK HO
        have HK := Lib.hid hk; have HO := Lib.hid ho
        clear hk ho
        by_cases hlt : m < 16
        · have hc1 := (HK.out.get 0 rfl).cell (k := 16 + m) (by have := HR.out; omega)
          have hst := take_snoc (xs := negs (seg R 16 16)) (k := m) (by rw [negs_length, HU.out]; omega)
          rw [negs_get (by rw [HU.out]; omega), seg_get hlt] at hst
          generalize R.getD (16 + m) 0 = x at hc1 hst
          have HT := Lib.hid hst; clear hst
          have hng : ∀ y : Int, wrap64 (0 - y) = ng y := fun y => by unfold ng; congr 1; omega
          have j1 : (0 : Int) ≤ (m : Int) := by omega
          have j2 : (m : Int) < 16 := by omega
          go_wp2_with (first
            | (with_reducible refine build1 HK.out rfl _ rfl rfl ?_; intro b1 u hk hb; clear hc1; have ho := own_below HO.out hb; clear hb HO; have HO := Lib.hid ho; clear ho; have HX := Lib.hid ((hk.get 0 rfl).readsAll (n := 1) rfl (by omega)); have hk1 := hk.tail; clear hk; have hk := hk1; clear hk1; clear HK; have HK := Lib.hid hk; clear hk)
            | (refine wpList_append_ints rfl _ _ rfl w.heap.size _ (16 + m) (seg R 0 16 ++ (negs (seg R 16 16)).take m) rfl HO.out _ 1 1 [ng x] rfl HX.out (by omega) HK.out.bel.size ?_; intro v' u ho hg hv; have hk := HK.out.grown HO.out (by simp) hg; clear HO HX hg hv; have HO := Lib.hid ho; clear ho; clear HK; have HK := Lib.hid hk; clear hk))
          go_roundw
          case rel => exact ⟨m + 1, by omega, by go_num, HK.out, by have h3 := HO.out; rw [List.append_assoc, ← HT.out] at h3; exact h3⟩
          case measure => simp [intOf]; omega
        · obtain rfl : m = 16 := by omega
          have ho := HO.out
          rw [List.take_of_length_le (by rw [negs_length, HU.out]; omega)] at ho
          obtain ⟨A, c, rfl⟩ := own_slice ho
          have HV := Lib.hid (own_reads ho (by omega)).1
          clear ho HO
          go_wp2_with ((go_at_call 33; (with_reducible refine (rsum_any A _ c (totL R) _ HV.out).mono ?_); rintro e u ⟨rfl, rfl⟩))
          go_ret2
          exact ⟨rfl, HK.out.bel⟩
end Go.Proofs.Ytpbjencigepnfaa
