/- A contract of rights.Free. -/
import Derived.Test.YtpbjencigepnfaaFreeB
namespace Go.Proofs.Ytpbjencigepnfaa
open Go.ChangeShapes Go.WideShapes Go.ChangeAt Go.RowKit

set_option maxHeartbeats 1000000 in
theorem free_any (R : List Int) (hR : R.length = 288) (k : Int) (w : World) :
    Calls Try.prog 11 #[.agg (vals R).toArray, .int .i64 k] w fun e w' => e = .returned (.tuple #[.int .i64 (freeN R k), .int .i64 (freeE R k)]) ∧ Below w.heap.size w w' := by
  have HR := Lib.hid hR
  have HK := Lib.hid (KeepR.start w)
  cases hrep : repB k with
  | false =>
    obtain ⟨e1, e2⟩ := free_no (R := R) hrep
    rw [e1, e2]; clear e1 e2 hR
    go_enter Try.func11, Try.ntmps11
    go_wp2_with (first
      | (with_reducible refine box_new HK.out rfl _ rfl rfl ?_; intro b u hk hb; clear hb; clear HK; have HK := Lib.hid hk; clear hk)
      | (go_at_call 29; (with_reducible refine (rep_any _ _).mono ?_); rintro e u ⟨rfl, rfl⟩))
    go_ret2
    exact ⟨rfl, HK.out.bel⟩
  | true =>
    obtain ⟨j, rfl⟩ : ∃ j : Nat, k = j := ⟨k.toNat, by have := repB_iff.1 hrep; omega⟩
    have hj : j < 16 := by have := repB_iff.1 hrep; omega
    obtain ⟨e1, e2⟩ := free_yes (R := R) hj
    rw [e1, e2]; clear e1 e2
    have HC := Lib.hid (colL_length R j)
    have HQ := Lib.hid (show fl R j = (R.getD j 0 :: colL R j) ++ (negs [R.getD (16 + j) 0] ++ negs (seg R (32 + j * 16) 16)) from rfl)
    have i1 : (0 : Int) ≤ (j : Int) := by omega
    have i2 : (j : Int) < 16 := by omega
    clear hR
    have HO := Lib.hid True.intro
    go_enter Try.func11, Try.ntmps11
    go_wp2_with (first
      | (with_reducible refine box_new HK.out rfl _ rfl rfl ?_; intro b u hk hb; clear hb; have hc0 := (hk.get 0 rfl).cell (k := j) (by have := HR.out; omega); clear HK; have HK := Lib.hid hk; clear hk)
      | (go_at_call 29; (with_reducible refine (rep_any _ _).mono ?_); rintro e u ⟨rfl, rfl⟩)
      | (with_reducible refine build1 HK.out rfl _ rfl rfl ?_; intro b1 u hk hb; clear hb hc0; have ho := (hk.get 0 rfl).own (hk.blk _ (List.mem_cons_self ..)).1 (n := 1) rfl (by omega); clear HO; have HO := Lib.hid ho; clear ho; have hk1 := hk.tail; clear hk; have hk := hk1; clear hk1; clear HK; have HK := Lib.hid hk; clear hk)
      | (with_reducible refine load_part HK.out 0 256 Try.underlying24 rfl m_info rfl _ rfl rfl rfl (by have := HR.out; omega) ?_))
    go_loopw [6, 19] (fun v i wr => ∃ m : Nat, m ≤ 16 ∧ i = .int .i64 m ∧ KeepR w [(b, 26, R)] wr ∧ wr.ownsRow w.heap.size 3 1 v (1 + m) (vals (R.getD j 0 :: (colL R j).take m))) (fun _ i _ => 16 - (intOf i).toNat)
    case atStart => exact ⟨0, by omega, rfl, HK.out, by simpa using HO.out⟩
    case round =>
      obtain ⟨m, hm, rfl, hk, ho⟩ := hrel
      clear HK HO
      have HK := Lib.hid hk; have HO := Lib.hid ho
      clear hk ho
      by_cases hlt : m < 16
      · have hix : ∀ W : World, (Instr.index 24 (.agg (vals (seg R 32 256)).toArray) (.int .i64 (m : Int))).run Try.prog W = .ok (.agg (vals (seg (seg R 32 256) (m * 16) 16)).toArray) W := fun W => index_row (seg_length (by have := HR.out; omega)) hlt W
        have hrow : seg (seg R 32 256) (m * 16) 16 = seg R (32 + m * 16) 16 := seg_seg (by omega)
        rw [hrow] at hix
        clear hrow
        have hrl : (seg R (32 + m * 16) 16).length = 16 := seg_length (by have := HR.out; omega)
        have hrg : (seg R (32 + m * 16) 16).getD j 0 = (colL R j).getD m 0 := by rw [seg_get hj, colL_get hlt]
        have hst : (colL R j).take (m + 1) = (colL R j).take m ++ [(colL R j).getD m 0] := take_snoc (by rw [HC.out]; omega)
        generalize (colL R j).getD m 0 = x at hrg hst
        have HL := Lib.hid hrl; have HG := Lib.hid hrg; have HT := Lib.hid hst
        clear hrl hrg hst
        have j1 : (0 : Int) ≤ (m : Int) := by omega
        have j2 : (m : Int) < 16 := by omega
        go_wp2_with (first
          | (with_reducible refine alloc_zero HK.out 16 v_zero rfl rfl ?_; intro b u hn hk hb; clear hn; have ho := own_below HO.out hb; clear hb HO; have HO := Lib.hid ho; clear ho; clear HK; have HK := Lib.hid hk; clear hk)
          | (with_reducible refine store_all HK.out 0 16 vec_info rfl rfl _ _ rfl rfl rfl rfl HL.out (zer_length 16) ?_; intro u hk hs; have ho := own_apart HO.out (HK.out.get 0 rfl) (by decide) hs; clear HO hs; have HO := Lib.hid ho; clear ho; simp only [List.set_cons_zero] at hk; have hc1 := (hk.get 0 rfl).cell (k := j) (by rw [HL.out]; omega); rw [HG.out] at hc1; clear HK; have HK := Lib.hid hk; clear hk)
          | (with_reducible refine build1 HK.out rfl _ rfl rfl ?_; intro b1 u hk hb; clear hc1; have ho := own_below HO.out hb; clear hb HO; have HO := Lib.hid ho; clear ho; have HX := Lib.hid ((hk.get 0 rfl).readsAll (n := 1) rfl (by omega)); have hk1 := hk.tail.tail; clear hk; have hk := hk1; clear hk1; clear HK; have HK := Lib.hid hk; clear hk)
          | (refine wpList_append_ints rfl _ _ rfl w.heap.size _ (1 + m) (R.getD j 0 :: (colL R j).take m) rfl HO.out _ 1 1 [x] rfl HX.out (by omega) HK.out.bel.size ?_; intro v' u ho hg hv; have hk := HK.out.grown HO.out (by simp) hg; clear HO HX hg hv; have HO := Lib.hid ho; clear ho; clear HK; have HK := Lib.hid hk; clear hk))
        go_roundw
        case rel => exact ⟨m + 1, by omega, by go_num, HK.out, by have h3 := HO.out; rw [List.cons_append, ← HT.out] at h3; exact h3⟩
        case measure => simp [intOf]; omega
      · obtain rfl : m = 16 := by omega
        have ho := HO.out
        rw [show (colL R j).take 16 = colL R j by rw [← HC.out]; exact List.take_length] at ho
        obtain ⟨A, c, rfl⟩ := own_slice ho
        have HV := Lib.hid (own_reads ho (by omega)).1
        clear ho HO
        go_wp2_with fail
        refine Draws.start (S := fun u => KeepR w [(b, 26, R)] u ∧ Reads u A (1 + 16) (R.getD j 0 :: colL R j)) (n := 19) 19 rfl (by kernel_rfl) ?_
        have HS := Lib.hid ((⟨HK.out.drew, HV.out⟩ : (fun u => KeepR w [(b, 26, R)] u ∧ Reads u A (1 + 16) (R.getD j 0 :: colL R j)) wr.drew))
        refine Draws.take 0 (v := ?v0) HS.out rfl (by kernel_rfl) (fun _ _ _ h => h) (Or.inl ⟨rfl, ?h0⟩) ?r0
        case h0 => intro w' hw'; go_simp; (try with_reducible rfl)
        (try simp only [Act.put, List.setIfInBounds_toArray, List.set_cons_zero, List.set_cons_succ])
        refine Draws.take 1 (v := ?v1) HS.out rfl (by kernel_rfl) (fun _ _ _ h => h) (Or.inl ⟨rfl, ?h1⟩) ?r1
        case h1 => intro w' hw'; go_simp; (try with_reducible rfl)
        (try simp only [Act.put, List.setIfInBounds_toArray, List.set_cons_zero, List.set_cons_succ])
        refine Draws.take 2 (v := ?v2) HS.out rfl (by kernel_rfl) (fun _ _ _ h => h) (Or.inl ⟨rfl, ?h2⟩) ?r2
        case h2 => intro w' hw'; go_simp; (try with_reducible rfl)
        (try simp only [Act.put, List.setIfInBounds_toArray, List.set_cons_zero, List.set_cons_succ])
        refine Draws.take 3 (v := ?v3) HS.out rfl (by kernel_rfl) (fun _ _ _ h => h) (Or.inl ⟨rfl, ?h3⟩) ?r3
        case h3 => intro w' hw'; go_simp; (try with_reducible rfl)
        (try simp only [Act.put, List.setIfInBounds_toArray, List.set_cons_zero, List.set_cons_succ])
        refine Draws.take 4 (v := ?v4) HS.out rfl (by kernel_rfl) (fun _ _ _ h => h) (Or.inl ⟨rfl, ?h4⟩) ?r4
        case h4 => intro w' hw'; have hc := (hw'.1.get 0 rfl).cell (k := 16 + j) (by have := HR.out; omega); go_simp; (try with_reducible rfl)
        (try simp only [Act.put, List.setIfInBounds_toArray, List.set_cons_zero, List.set_cons_succ])
        refine Draws.take 7 (v := ?v7) HS.out rfl (by kernel_rfl) (fun _ _ _ h => h) (Or.inl ⟨rfl, ?h7⟩) ?r7
        case h7 => intro w' hw'; go_simp; (try with_reducible rfl)
        (try simp only [Act.put, List.setIfInBounds_toArray, List.set_cons_zero, List.set_cons_succ])
        refine Draws.take 8 (v := ?v8) HS.out rfl (by kernel_rfl) (fun _ _ _ h => h) (Or.inl ⟨rfl, ?h8⟩) ?r8
        case h8 => intro w' hw'; go_simp; (try with_reducible rfl)
        (try simp only [Act.put, List.setIfInBounds_toArray, List.set_cons_zero, List.set_cons_succ])
        refine Draws.take 9 (v := ?v9) HS.out rfl (by kernel_rfl) (fun _ _ _ h => h) (Or.inl ⟨rfl, ?h9⟩) ?r9
        case h9 => intro w' hw'; go_simp; (try with_reducible rfl)
        (try simp only [Act.put, List.setIfInBounds_toArray, List.set_cons_zero, List.set_cons_succ])
        refine Draws.take 10 (v := ?v10) HS.out rfl (by kernel_rfl) (fun _ _ _ h => h) (Or.inl ⟨rfl, ?h10⟩) ?r10
        case h10 => intro w' hw'; go_simp; (try with_reducible rfl)
        (try simp only [Act.put, List.setIfInBounds_toArray, List.set_cons_zero, List.set_cons_succ])
        refine Draws.does 5 rfl (by kernel_rfl) rfl (fun K hK => ?_)
        refine wp_build1 HS.out.1 _ rfl rfl ?_
        intro b1 u hk hb
        have HX := Lib.hid ((hk.get 0 rfl).readsAll (n := 1) rfl (by omega))
        refine hK.out _ _ (fun _ => ⟨HS.out.1.call hb, reads_below hb HS.out.2⟩) ?_
        clear hK K
        have hs : (fun u => KeepR w [(b, 26, R)] u ∧ Reads u A (1 + 16) (R.getD j 0 :: colL R j)) u := ⟨HS.out.1.call hb, reads_below hb HS.out.2⟩
        clear HS
        have HS := Lib.hid hs; clear hs
        (try simp only [Act.put, List.setIfInBounds_toArray, List.set_cons_zero, List.set_cons_succ])
        clear hk hb
        refine Draws.does 6 rfl (by kernel_rfl) rfl (fun K hK => ?_)
        go_simp
        go_at_call 32
        refine (less_any b1 0 1 1 _ (by omega) _ HX.out (by omega)).mono ?_
        rintro e u ⟨b2, rfl, hk⟩
        (try dsimp only)
        have hb := hk.bel
        have hx := (hk.get 0 rfl).readsAll (n := 1) rfl (by omega)
        clear HX
        have HX := Lib.hid hx; clear hx
        refine hK.out _ _ (fun _ => ⟨HS.out.1.call hb, reads_below hb HS.out.2⟩) ?_
        clear hK K
        have hs : (fun u => KeepR w [(b, 26, R)] u ∧ Reads u A (1 + 16) (R.getD j 0 :: colL R j)) u := ⟨HS.out.1.call hb, reads_below hb HS.out.2⟩
        clear HS
        have HS := Lib.hid hs; clear hs
        (try simp only [Act.put, List.setIfInBounds_toArray, List.set_cons_zero, List.set_cons_succ])
        clear hk hb
        refine Draws.does 11 rfl (by kernel_rfl) rfl (fun K hK => ?_)
        go_simp
        go_at_call 32
        refine (less_any b (32 + j * 16) 16 16 (seg R (32 + j * 16) 16) (by omega) _ (reads_seg (HS.out.1.get 0 rfl) (by have := HR.out; omega) (by omega)) (by omega)).mono ?_
        rintro e u ⟨b3, rfl, hk⟩
        (try dsimp only)
        have hb := hk.bel
        have HY := Lib.hid ((hk.get 0 rfl).readsAll (n := 16) (by rw [negs_length, seg_length (by have := HR.out; omega)]) (by omega))
        have hx := reads_below hb HX.out
        clear HX
        have HX := Lib.hid hx; clear hx
        refine hK.out _ _ (fun _ => ⟨HS.out.1.call hb, reads_below hb HS.out.2⟩) ?_
        clear hK K
        have hs : (fun u => KeepR w [(b, 26, R)] u ∧ Reads u A (1 + 16) (R.getD j 0 :: colL R j)) u := ⟨HS.out.1.call hb, reads_below hb HS.out.2⟩
        clear HS
        have HS := Lib.hid hs; clear hs
        (try simp only [Act.put, List.setIfInBounds_toArray, List.set_cons_zero, List.set_cons_succ])
        clear hk hb
        refine Draws.does 12 rfl (by kernel_rfl) rfl (fun K hK => ?_)
        refine wp_build3 _ _ _ rfl rfl rfl rfl HS.out.2 HX.out HY.out ?_
        intro b4 u hp hb
        have HP := Lib.hid hp
        clear hp
        refine hK.out _ _ (fun _ => ⟨HS.out.1.call hb, reads_below hb HS.out.2⟩) ?_
        clear hK K
        have hs : (fun u => KeepR w [(b, 26, R)] u ∧ Reads u A (1 + 16) (R.getD j 0 :: colL R j)) u := ⟨HS.out.1.call hb, reads_below hb HS.out.2⟩
        clear HS
        have HS := Lib.hid hs; clear hs
        (try simp only [Act.put, List.setIfInBounds_toArray, List.set_cons_zero, List.set_cons_succ])
        clear hb HX HY
        obtain ⟨L, hL⟩ : ∃ L : List IntPart, L = [(A, 1 + 16, c, R.getD j 0 :: colL R j), (some ⟨b2, 0, none⟩, 1, 1, negs [R.getD (16 + j) 0]), (some ⟨b3, 0, none⟩, 16, 16, negs (seg R (32 + j * 16) 16))] := ⟨_, rfl⟩
        have hp := HP.out
        change PartsAt _ b4 [(A, 1 + 16, c, R.getD j 0 :: colL R j), (some ⟨b2, 0, none⟩, 1, 1, negs [R.getD (16 + j) 0]), (some ⟨b3, 0, none⟩, 16, 16, negs (seg R (32 + j * 16) 16))] at hp
        rw [← hL] at hp
        clear HP
        have HP := Lib.hid hp; clear hp
        have e0 : partL L = fl R j := by rw [hL, HQ.out]; simp [partL]
        have e3 : partN L = 34 := by rw [hL]; rfl
        have e4 : 3 = L.length := by rw [hL]; rfl
        have HE := Lib.hid e0; have HN := Lib.hid e3; have HM := Lib.hid e4
        clear e0 e3 e4 hL
        have hcc := concat_any b4 3 L (by rw [HN.out]; omega) (by rw [HN.out]; omega) (by rw [← HM.out]; omega) _ HP.out
        rw [← HM.out, HN.out, HE.out] at hcc
        have HCC := Lib.hid hcc; clear hcc
        refine Draws.does 13 rfl (by kernel_rfl) rfl (fun K hK => ?_)
        go_simp
        go_at_call 31
        refine (HCC.out).mono ?_
        rintro e u ⟨A2, c2, rfl, hr, hb⟩
        (try dsimp only)
        have HX := Lib.hid hr
        refine hK.out _ _ (fun _ => ⟨HS.out.1.call hb, reads_below hb HS.out.2⟩) ?_
        clear hK K
        have hs : (fun u => KeepR w [(b, 26, R)] u ∧ Reads u A (1 + 16) (R.getD j 0 :: colL R j)) u := ⟨HS.out.1.call hb, reads_below hb HS.out.2⟩
        clear HS
        have HS := Lib.hid hs; clear hs
        (try simp only [Act.put, List.setIfInBounds_toArray, List.set_cons_zero, List.set_cons_succ])
        clear hr hb
        refine Draws.does 14 rfl (by kernel_rfl) rfl (fun K hK => ?_)
        go_simp
        go_at_call 30
        refine (sum_any A2 34 c2 (fl R j) _ HX.out).mono ?_
        rintro e u ⟨rfl, hb⟩
        (try dsimp only)
        refine hK.out _ _ (fun _ => ⟨HS.out.1.call hb, reads_below hb HS.out.2⟩) ?_
        clear hK K
        have hs : (fun u => KeepR w [(b, 26, R)] u ∧ Reads u A (1 + 16) (R.getD j 0 :: colL R j)) u := ⟨HS.out.1.call hb, reads_below hb HS.out.2⟩
        clear HS
        have HS := Lib.hid hs; clear hs
        (try simp only [Act.put, List.setIfInBounds_toArray, List.set_cons_zero, List.set_cons_succ])
        clear hb
        refine Draws.take 15 (v := ?v15) HS.out rfl (by kernel_rfl) (fun _ _ _ h => h) (Or.inl ⟨rfl, ?h15⟩) ?r15
        case h15 => intro w' hw'; go_simp; (try with_reducible rfl)
        (try simp only [Act.put, List.setIfInBounds_toArray, List.set_cons_zero, List.set_cons_succ])
        refine Draws.take 16 (v := ?v16) HS.out rfl (by kernel_rfl) (fun _ _ _ h => h) (Or.inl ⟨rfl, ?h16⟩) ?r16
        case h16 => intro w' hw'; go_simp; (try with_reducible rfl)
        (try simp only [Act.put, List.setIfInBounds_toArray, List.set_cons_zero, List.set_cons_succ])
        refine Draws.take 17 (v := ?v17) HS.out rfl (by kernel_rfl) (fun _ _ _ h => h) (Or.inl ⟨rfl, ?h17⟩) ?r17
        case h17 => intro w' hw'; go_simp; (try with_reducible rfl)
        (try simp only [Act.put, List.setIfInBounds_toArray, List.set_cons_zero, List.set_cons_succ])
        refine Draws.take 18 (v := ?v18) HS.out rfl (by kernel_rfl) (fun _ _ _ h => h) (Or.inl ⟨rfl, ?h18⟩) ?r18
        case h18 => intro w' hw'; go_simp; (try with_reducible rfl)
        (try simp only [Act.put, List.setIfInBounds_toArray, List.set_cons_zero, List.set_cons_succ])
        refine Draws.done (by kernel_rfl) ?_
        go_wp2
        go_ret2
        exact ⟨rfl, HS.out.1.bel⟩
end Go.Proofs.Ytpbjencigepnfaa
