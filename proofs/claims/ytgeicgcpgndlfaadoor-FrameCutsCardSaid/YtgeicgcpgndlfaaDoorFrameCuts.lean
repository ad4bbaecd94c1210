/- For every slice of slices of bytes, and int, usufructlaw09.FrameCuts returns true, and each argument reads as before. Condition: the package-level variable frame.nibbles reads, when the call begins, as the program lays it (the card ties that to the program, by the tie that is given with the seat; that nothing else writes it is the translator's report). -/
import Derived.Test.YtgeicgcpgndlfaaDoorFb
import Derived.WalkKit
import Derived.ProofKit
import Derived.OpenShut
import Derived.ShutString
import Derived.ChangeOld
import Derived.Below
import Derived.Test.YtgeicgcpgndlfaaDoorTie
import Derived.Test.YtgeicgcpgndlfaaDoorCards
import Derived.SevenTiedAt
namespace Go.Proofs.YtgeicgcpgndlfaaDoor.frameCuts
open Go.ChangeShapes Go.WideShapes Go.ChangeAt Go.RowKit
set_option linter.unusedVariables false


set_option maxRecDepth 100000 in
set_option maxHeartbeats 4000000 in
theorem walk (w : World) (hw : Nib w) (A0 : Option Addr) (n0 c0 : Nat) (L0 : List BPart) (hd0 : LL w A0 n0 L0) (a1 : Int) (w1 : (Lit.int .i64 a1).wf = true) :
    Calls Tryd.prog 8 #[.slice A0 n0 c0, .int .i64 a1] w fun e w' => e = .returned (.bool true) ∧ Below w.heap.size w w' := by
  have HW := Lib.hid hw
  have HX := Lib.hid (KO.start w)
  have HD := Lib.hid hd0
  clear hw hd0
  obtain ⟨M, hM⟩ : ∃ M, txt L0 = M := ⟨_, rfl⟩
  have HM := Lib.hid hM
  have HML := Lib.hid (show M.length = n0 by rw [← hM, txt_length]; exact HD.out.1)
  have HO1 := Lib.hid (fun m (h : m < n0) => HD.out.one h)
  rw [hM] at HO1
  have HFS := Lib.hid (fun m (h : m < M.length) => show fls (M.take (m + 1)) = fls (M.take m) ++ frm (M.getD m []) from by
    rw [List.take_add_one, List.getElem?_eq_getElem h, fls_append]; simp [List.getD, h, fls])
  have HLS := Lib.hid (fun i j (h : i ≤ j) => fls_mono M h)
  clear hM
  go_enter Tryd.func8, Tryd.ntmps8
  go_wp2_with fail
  go_loopw [5, 6, 7, 17] (fun v x y i wr => ∃ m j : Nat, m ≤ n0 ∧ j ≤ m ∧ i = .int .i64 m ∧ x = .int .i64 j ∧ y = .int .i64 ((fls (M.take j)).length : Int) ∧ KO w v (fls (M.take m)) wr ∧ (∀ q, q < m → (M.getD q []).length ≤ 100) ∧ (0 < m → n0 ≤ 20) ∧ (fls (M.take m)).length ≤ m * 108 ∧ (j = 0 ∨ ((fls (M.take j)).length : Int) ≤ a1) ∧ ∀ q, j < q → q ≤ m → a1 < ((fls (M.take q)).length : Int)) (fun _ _ _ i _ => n0 - (intOf i).toNat)
  case atStart => exact ⟨0, 0, by omega, by omega, rfl, rfl, by simp [fls], by simpa [fls] using HX.out, fun q h => by omega, by omega, by simp [fls], .inl rfl, fun q h1 h2 => by omega⟩
  case round =>
    obtain ⟨m, j, hm, hj, rfl, rfl, rfl, hx, h100, h20, h108, hj1, hj2⟩ := hrel
    clear HX
    have HX := Lib.hid hx
    have H100 := Lib.hid h100; have H20 := Lib.hid h20; have H108 := Lib.hid h108; have HJ1 := Lib.hid hj1; have HJ2 := Lib.hid hj2
    clear hx h100 h20 h108 hj1 hj2
    by_cases hlt : m < n0
    · obtain ⟨b, off, B, d, rfl, _, q1, o1⟩ := HO1.out m hlt
      have HF1 := Lib.hid (HFS.out m (by rw [HML.out]; exact hlt))
      have q2 : wr.cell? ⟨b, off + m, none⟩ = some (.slice B (M.getD m []).length d) := by rw [HX.out.bel.cell (cell_lt q1)]; exact q1
      have i2 : (0 : Int) ≤ (m : Int) := by omega
      have i3 : (m : Int) < (n0 : Int) := by omega
      generalize hT : M.getD m [] = T at *
      have HT := Lib.hid hT
      have HO := Lib.hid o1
      clear hT o1 q1
      by_cases hl : 100 < T.length
      · have i5 : (100 : Int) < (T.length : Int) := by omega
        go_wp2_with (first
          | (go_at_call 10; (with_reducible refine (awake_any _ (HW.out.below HX.out.bel)).mono ?_); rintro e u ⟨rfl, hb⟩; have hb := HX.out.bel.trans (hb.mono HX.out.bel.size); have HB := Lib.hid hb; clear hb))
        go_ret
        exact ⟨rfl, HB.out⟩
      have i5 : ¬ (100 : Int) < (T.length : Int) := by omega
      by_cases hn : 20 < n0
      · have i6 : (20 : Int) < (n0 : Int) := by omega
        go_wp2_with (first
          | (go_at_call 10; (with_reducible refine (awake_any _ (HW.out.below HX.out.bel)).mono ?_); rintro e u ⟨rfl, hb⟩; have hb := HX.out.bel.trans (hb.mono HX.out.bel.size); have HB := Lib.hid hb; clear hb))
        go_ret
        exact ⟨rfl, HB.out⟩
      have i6 : ¬ (20 : Int) < (n0 : Int) := by omega
      have HTL := Lib.hid (show T.length ≤ 32768 by omega)
      have HT1 := Lib.hid (show T.length ≤ 100 by omega)
      have HN := Lib.hid (show n0 ≤ 20 by omega)
      have HLE := Lib.hid (show (fls (M.take m)).length + (frm T).length ≤ 1048576 by have := H108.out; rw [frm_length]; omega)
      have HL1 := Lib.hid (show (fls (M.take (m + 1))).length ≤ (m + 1) * 108 by have := H108.out; rw [HF1.out, List.length_append, frm_length]; omega)
      have i7 : (m : Int) ≤ 20 := by omega
      have i8 : (j : Int) ≤ 20 := by omega
      clear hl hn
      have HA := Lib.hid (show ∀ q, q < m + 1 → (M.getD q []).length ≤ 100 from fun q hq => by
        rcases Nat.lt_or_ge q m with h | h
        · exact H100.out q h
        · obtain rfl : q = m := by omega
          rw [HT.out]; exact HT1.out)
      have HM1 := Lib.hid (HLS.out m (m + 1) (by omega))
      have HXX := Lib.hid (show ∃ X1, fls (M.take (m + 1)) = X1 from ⟨_, rfl⟩)
      obtain ⟨X1, hX1⟩ := HXX.out
      clear HXX
      rw [hX1] at HF1 HL1 HM1
      have HX1 := Lib.hid hX1
      clear hX1
      by_cases hc : (X1.length : Int) ≤ a1
      · have hjm : j = m := by
          rcases Nat.lt_or_ge j m with h | h
          · have := HJ2.out m h (Nat.le_refl _); have := HM1.out; omega
          · omega
        subst hjm
        have HC := Lib.hid hc
        go_wp2_with (first
          | (go_at_call 11; (with_reducible refine (put_any _ _ _ T rfl HTL.out _ (HO.out.below HX.out.bel) (HW.out.below HX.out.bel)).mono ?_); rintro e u ⟨A2, c2, ⟨rfl, _⟩, hk⟩; have hy := hk.own.bys; have hx := HX.out.call hk.bel; clear HX hk; have HX := Lib.hid hx; have HY := Lib.hid hy; clear hx hy)
          | (refine app_more HX.out HY.out rfl rfl _ _ rfl rfl rfl HLE.out ?_; intro v' u hk; rw [← HF1.out] at hk; obtain ⟨A5, c5, rfl, _⟩ := hk.part; clear HX; have HX := Lib.hid hk; clear hk))
        go_roundw
        case rel => exact ⟨j + 1, j + 1, by omega, by omega, by go_num, by go_num, by rw [HX1.out], by rw [HX1.out]; exact HX.out, HA.out, fun _ => HN.out, by rw [HX1.out]; exact HL1.out, .inr (by rw [HX1.out]; exact HC.out), fun q h1 h2 => by omega⟩
        case measure => simp [intOf]; omega
      · have HC := Lib.hid hc
        go_wp2_with (first
          | (go_at_call 11; (with_reducible refine (put_any _ _ _ T rfl HTL.out _ (HO.out.below HX.out.bel) (HW.out.below HX.out.bel)).mono ?_); rintro e u ⟨A2, c2, ⟨rfl, _⟩, hk⟩; have hy := hk.own.bys; have hx := HX.out.call hk.bel; clear HX hk; have HX := Lib.hid hx; have HY := Lib.hid hy; clear hx hy)
          | (refine app_more HX.out HY.out rfl rfl _ _ rfl rfl rfl HLE.out ?_; intro v' u hk; rw [← HF1.out] at hk; obtain ⟨A5, c5, rfl, _⟩ := hk.part; clear HX; have HX := Lib.hid hk; clear hk))
        go_roundw
        case rel => exact ⟨m + 1, j, by omega, by omega, by go_num, rfl, rfl, by rw [HX1.out]; exact HX.out, HA.out, fun _ => HN.out, by rw [HX1.out]; exact HL1.out, HJ1.out, fun q h1 h2 => by
          rcases Nat.lt_or_ge q (m + 1) with h | h
          · exact HJ2.out q h1 (by omega)
          · obtain rfl : q = m + 1 := by omega
            rw [HX1.out]; have := HC.out; omega⟩
        case measure => simp [intOf]; omega
    · obtain rfl : m = n0 := by omega
      have hx := HX.out
      rw [show M.take m = M from List.take_of_length_le (by rw [HML.out]; exact Nat.le_refl _)] at hx
      have HXM := Lib.hid (show (fls M).length ≤ m * 108 by have := H108.out; rwa [show M.take m = M from List.take_of_length_le (by rw [HML.out]; exact Nat.le_refl _)] at this)
      have HN20 := Lib.hid (show m ≤ 20 by rcases Nat.eq_zero_or_pos m with h | h; · omega
                                           · exact H20.out h)
      have HMP := Lib.hid (show ∀ p ∈ M, p.length ≤ 32768 from fun p hp => by
        obtain ⟨q, hq, rfl⟩ := List.getElem_of_mem hp
        have := H100.out q (by rw [← HML.out]; exact hq)
        rw [List.getD_eq_getElem?_getD, List.getElem?_eq_getElem hq] at this
        have h2 : M[q].length ≤ 100 := this
        omega)
      clear HX
      generalize hX : fls M = X at *
      have HXX := Lib.hid hX
      obtain ⟨A5, c5, rfl, hc5⟩ := hx.part
      have HX := Lib.hid hx
      clear hx hX
      by_cases h1 : a1 < 0
      · go_wp2_with (first
          | (go_at_call 10; (with_reducible refine (awake_any _ (HW.out.below HX.out.bel)).mono ?_); rintro e u ⟨rfl, hb⟩; have hb := HX.out.bel.trans (hb.mono HX.out.bel.size); have HB := Lib.hid hb; clear hb))
        go_ret
        exact ⟨rfl, HB.out⟩
      by_cases h2 : (X.length : Int) < a1
      · go_wp2_with (first
          | (go_at_call 10; (with_reducible refine (awake_any _ (HW.out.below HX.out.bel)).mono ?_); rintro e u ⟨rfl, hb⟩; have hb := HX.out.bel.trans (hb.mono HX.out.bel.size); have HB := Lib.hid hb; clear hb))
        go_ret
        exact ⟨rfl, HB.out⟩
      obtain ⟨k, rfl⟩ := Int.eq_ofNat_of_zero_le (show 0 ≤ a1 by omega)
      have hkX : k ≤ X.length := by omega
      have HKX := Lib.hid hkX
      have HKC := Lib.hid (show k ≤ c5 by omega)
      have hcf : scn (X.take k) = M.take j := by
        rw [← HXX.out]
        refine cut_frames HMP.out (by rw [HML.out]; exact hj) ?_ fun i h1 h2 => ?_
        · rcases HJ1.out with h | h
          · subst h; simp [fls]
          · omega
        · have := HJ2.out i h1 (by rw [HML.out] at h2; exact h2); omega
      have HXK := Lib.hid (show (X.take k).length = k by rw [List.length_take]; omega)
      have HK1 := Lib.hid (fun i (h : i < j) => show (M.take j).getD i [] = M.getD i [] from by simp [List.getD, h])
      have hKj : (M.take j).length = j := by rw [List.length_take, HML.out]; omega
      have HJM := Lib.hid hj
      clear HJ1 HJ2 H100 H20 H108
      generalize M.take j = K at *
      subst hKj
      have HCF := Lib.hid hcf
      have i8 : (K.length : Int) ≤ 20 := by have := HN20.out; omega
      have j1 : ¬ (k : Int) < 0 := by omega
      have j2 : ¬ (X.length : Int) < (k : Int) := by omega
      clear hcf h1 h2 hkX hlt hj
      go_wp2_with (first
        | (refine high_slice HKC.out rfl _ _ rfl rfl rfl ?_)
        | (go_at_call 17; (with_reducible refine (scan_any _ _ _ (X.take k) HXK.out HKC.out (by have := HKX.out; have := HXM.out; have := HN20.out; omega) _ (HX.out.own.bys.take k) (HW.out.below HX.out.bel)).mono ?_); intro e u1 ht; obtain ⟨A3, c3, L, ⟨rfl, _⟩, hT, hk⟩ := ht.at (N := (fls K).length) HCF.out rfl; have hk := hk.lift HX.out.bel; clear ht; have HK := Lib.hid hk; have HT := Lib.hid hT; clear hk hT))
      go_loopw [76] (fun i wr => ∃ q : Nat, q ≤ K.length ∧ i = .int .i64 q ∧ KL w (.slice A3 K.length c3) L wr) (fun i _ => K.length - (intOf i).toNat)
      case atStart => exact ⟨0, by omega, rfl, HK.out⟩
      case round =>
        obtain ⟨q, hq, rfl, hk1⟩ := hrel
        clear HK
        have HK := Lib.hid hk1
        clear hk1
        by_cases hlt : q < K.length
        · obtain ⟨B1, d1, hx⟩ := txt_get HT.out hlt
          obtain ⟨b2, off2, B2, d2, rfl, _, q2, o2⟩ := HO1.out q (by have := HJM.out; omega)
          rw [HK1.out q hlt] at hx
          generalize M.getD q [] = T at hx q2 o2
          obtain ⟨g1, rfl, q1, o1⟩ := HK.out.one hx
          have q3 : ∀ p v, w.cell? p = some v → _ := fun p v h => (HK.out.bel.cell (cell_lt h)).trans h
          have q4 := q3 _ _ q2
          have s1 := fun q : Nat => run_str (o1.bys.drewN q) d1
          have s2 := fun q : Nat => run_str ((o2.below HK.out.bel).drewN q) d2
          have hq2 : ((⟨T.toArray⟩ : ByteArray).toList == (⟨T.toArray⟩ : ByteArray).toList) = true := by simp
          have i2 : (0 : Int) ≤ (q : Int) := by omega
          have i3 : (q : Int) < (K.length : Int) := by omega
          have i4 : (q : Int) ≤ 20 := by omega
          have i9 : (q : Int) < (m : Int) := by have := HJM.out; omega
          clear hx o1 o2 q2 q3
          generalize T.length = t at *
          go_wp2_with fail
          go_quiet (fail)
          have hk1 := HK.out.drewN nq
          clear HK
          have HK := Lib.hid hk1
          clear hk1 s1 s2 q1 q4
          go_wp2_with fail
          go_roundw
          case rel => exact ⟨q + 1, by omega, by go_num, HK.out⟩
          case measure => simp [intOf]; omega
        · obtain rfl : q = K.length := by omega
          go_wp2_with (first
            | (go_at_call 10; (with_reducible refine (awake_any _ (HW.out.below HK.out.bel)).mono ?_); rintro e u ⟨rfl, hb⟩; have hb := HK.out.bel.trans (hb.mono HK.out.bel.size); have HB := Lib.hid hb; clear hb))
          go_ret
          exact ⟨rfl, HB.out⟩

set_option maxRecDepth 100000 in
theorem lifted (os : Os) (started : os.Started) (H : Type) (enc : TypeId × Value → H) :
    ReturnsInHanded {} Tryd.checked os 8 .any (fun w args => (Rows.frameCutsSpec.pre enc Tryd.prog Tryd.f8 [] false w args ∧ laidMetH Tryd.prog laid w) ∧ sizedMet enc Tryd.prog Tryd.f8 (OpenSpec.ofChange Rows.frameCutsSpec) false w args)
      (Rows.frameCutsSpec.post enc Tryd.prog Tryd.f8 false true false false) := by
  refine returnsInHanded_of_change_and (C := Tryd.checked) (X := fun w _ => laidMetH Tryd.prog laid w) (fun _ _ _ hh h => h.of_heap hh) own started (by kernel_rfl) Tryd.func8
    (ChangeSpec.witness_shaped (enc := enc) (C := Tryd.checked) (os := os) (X := fun w _ => laidMetH Tryd.prog laid w) false (World.doorLaid Tryd.prog 400 os) #[.slice none 0 0, .int .i64 0] 12 rfl (World.shaped_of_RefB (by kernel_rfl) (by kernel_rfl)) (by kernel_rfl) (by kernel_rfl) (by kernel_rfl) (door_met os _)) ?_
  intro W base args ds gs before hval0 hW _ hsz0 hL _
  have hsz : (DataW.weightsEach Tryd.prog (Tryd.f8.params.toList ++ Rows.frameCutsSpec.plain.varTypes Tryd.prog) (ds ++ gs)).all (· ≤ reachBytes) = true := hsz0
  clear hsz0
  have hval : ∀ (j : Nat) t v, Tryd.f8.params[j]? = some t → args[j]? = some v → Value.okWide Tryd.prog W .any base t v := hval0
  have hW' := hW
  obtain ⟨p, q, hA0, hV, rfl, hfz, hnd⟩ := hW
  have hA : DataW.TrodAll enc Tryd.prog W 0 (fun _ => true) true Tryd.f8.params.toList args.toList ds p := hA0
  rw [Tryd.params8] at hA hval hsz
  obtain ⟨v0, vs0, d0, ds0, q0, r0, hargs, rfl, rfl, h0, t0⟩ := trodAll_cons hA
  obtain ⟨v1, vs1, d1, ds1, q1, r1, rfl, rfl, rfl, h1, t1⟩ := trodAll_cons t0
  obtain ⟨rfl, rfl, rfl⟩ := trodAll_nil t1
  obtain rfl : args = #[v0, v1] := by cases args; simp_all
  obtain ⟨rfl, rfl⟩ := trodVars_none hV
  have k0 := h0
  have lt0 : ∀ x ∈ q0, x.block < W.heap.size := by obtain ⟨m, hm⟩ := k0; exact DataW.trod_lt m _ _ _ hm
  obtain ⟨A0, n0, c0, L0, rfl, hd0⟩ := open_B (hval 0 33 v0 rfl rfl) h0
  have k1 := h1
  have lt1 : ∀ x ∈ q1, x.block < W.heap.size := by obtain ⟨m, hm⟩ := k1; exact DataW.trod_lt m _ _ _ hm
  obtain ⟨a1, rfl, rfl, rfl, w1⟩ := open_int Tryd.underlying3 (hval 1 3 v1 rfl rfl) h1
  have hw := nib_of_laid hL
  clear hA0 hval0
  refine (walk W hw A0 n0 c0 L0 hd0 a1 w1).mono fun e W' ⟨he, bel⟩ => ?_
  subst he
  exact ⟨_, rfl, _, _, _, [], _, [], hW', trodAll_mk1 (shut_bool Tryd.underlying4 _), (trodAll_cons_mk (Below.trod laidOut (by kernel_rfl) (of_decide_eq_true (by kernel_rfl)) k0 bel lt0) (trodAll_cons_mk (Below.trod laidOut (by kernel_rfl) (of_decide_eq_true (by kernel_rfl)) k1 bel lt1) trodAll_mk0)), rfl, bel.frame _, fun h => by cases h⟩

theorem over : Rows.frameCutsRow.holds Tryd.pinned (OpenSpec.ofChange Rows.frameCutsSpec) :=
  OpenClaim.holds_of_wide 8 Tryd.f8 rfl rfl rfl rfl rfl rfl rfl ⟨rfl, rfl, rfl, rfl, rfl⟩ rfl rfl rfl rfl rfl (by kernel_rfl) Tryd.func8 (by kernel_rfl)
    (of_decide_eq_true (by kernel_rfl)) (by unfold Func.isWrapper; first | (rw [if_pos (by decide +kernel)]; kernel_rfl) | (rw [if_neg (by decide +kernel)]; exact ⟨rfl, rfl⟩))
    (fun os started H enc _ => lifted os started H enc)

theorem card_holds : Claim7.holds Tryd.pinned (.plain (OpenSpec.ofChange Rows.frameCutsSpec)) Rows.frameCutsCard :=
  Claim7.holds_tied_plain_at .later [] [.data] true (true, "a244ffbdcca26050101f612f586af2cfca3849d720ebd70499b280c37875cc29") false
    over (fun _ h => by cases h) (by kernel_rfl) (fun _ h => by cases h) frameCuts_row_tie rfl ⟨rfl, rfl⟩ (by kernel_rfl) rfl
    (fun f fn hf hfn => by
      obtain rfl : f = 8 := Option.some.inj ((show Tryd.prog.funcNamed "usufruct/usufructlaw09.FrameCuts" = some 8 by kernel_rfl).symm.trans hf) |>.symm
      obtain rfl : fn = Tryd.f8 := (Option.some.inj (Tryd.func8.symm.trans hfn)).symm
      exact ⟨by kernel_rfl, fun j t ht => by
        rw [Tryd.params8] at ht
        have hm : t ∈ [33, 3] := by simpa using Array.mem_of_getElem? ht
        have hall : ([33, 3].all fun u => !Tryd.prog.wantsStandIn u) = true := by kernel_rfl
        exact (show Tryd.prog.wantsStandIn t = false by simpa using List.all_eq_true.1 hall t hm)⟩)
    (by kernel_rfl)
theorem proved : Rows.FrameCutsCardSaid := card_holds
#print axioms proved
end Go.Proofs.YtgeicgcpgndlfaaDoor.frameCuts
