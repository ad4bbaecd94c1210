/- For every two slices of bytes usufructlaw09.FrameScans returns true, and each argument reads as before. Condition: the package-level variable frame.nibbles reads, when the call begins, as the program lays it (the card ties that to the program, by the tie that is given with the seat; that nothing else writes it is the translator's report). -/
import Derived.Test.YtgeicgcpgndlfaaDoorFe
import Derived.WalkKit
import Derived.ProofKit
import Derived.OpenShut
import Derived.ShutString
import Derived.ChangeOld
import Derived.Below
import Derived.Test.YtgeicgcpgndlfaaDoorTie
import Derived.Test.YtgeicgcpgndlfaaDoorCards
import Derived.SevenTiedAt
namespace Go.Proofs.YtgeicgcpgndlfaaDoor.frameScans
open Go.ChangeShapes Go.WideShapes Go.ChangeAt Go.RowKit
set_option linter.unusedVariables false


set_option maxRecDepth 100000 in
set_option maxHeartbeats 4000000 in
theorem walk (w : World) (hw : Nib w) (A0 : Option Addr) (n0 c0 : Nat) (l0 : List UInt8) (hl0 : l0.length = n0) (hc0 : n0 ≤ c0) (hm0 : c0 ≤ maxLen) (hd0 : Bys w A0 l0) (hr0 : n0 ≤ 140737488351232) (A1 : Option Addr) (n1 c1 : Nat) (l1 : List UInt8) (hl1 : l1.length = n1) (hc1 : n1 ≤ c1) (hm1 : c1 ≤ maxLen) (hd1 : Bys w A1 l1) (hr1 : n1 ≤ 140737488351232) :
    Calls Tryd.prog 7 #[.slice A0 n0 c0, .slice A1 n1 c1] w fun e w' => e = .returned (.bool true) ∧ Below w.heap.size w w' := by
  have HB := Lib.hid (Below.refl w.heap.size w)
  have HW := Lib.hid hw
  have e0 : wrap64 ((n0 : Int) + (n1 : Int)) = (n0 : Int) + (n1 : Int) := by unfold wrap64; omega
  by_cases h1 : 3000 < n0 + n1
  · have i1 : (3000 : Int) < (n0 : Int) + (n1 : Int) := by omega
    go_enter Tryd.func7, Tryd.ntmps7
    go_wp2_with (first
      | (go_at_call 10; (with_reducible refine (awake_any _ (HW.out.below HB.out)).mono ?_); rintro e u ⟨rfl, hb⟩; have hb := HB.out.trans (hb.mono HB.out.size); clear HB; have HB := Lib.hid hb; clear hb))
    go_ret
    exact ⟨rfl, HB.out⟩
  have i1 : ¬ (3000 : Int) < (n0 : Int) + (n1 : Int) := by omega
  have HM3 := Lib.hid (show n0 + n1 ≤ 3000 by omega)
  have HD := Lib.hid hd0; have HL := Lib.hid hl0; have HD1 := Lib.hid hd1; have HL1 := Lib.hid hl1
  clear hd0 hl0 hd1 hl1 hw
  obtain ⟨G, hG⟩ : ∃ G, G = l0 ++ l1 := ⟨_, rfl⟩
  have HG := Lib.hid hG
  have HGL := Lib.hid (show G.length ≤ 1000000 by rw [hG, List.length_append, HL.out, HL1.out]; omega)
  obtain ⟨M, hM⟩ : ∃ M, scn l0 = M := ⟨_, rfl⟩
  obtain ⟨M2, hM2⟩ : ∃ M2, scn G = M2 := ⟨_, rfl⟩
  obtain ⟨X, hX⟩ : ∃ X, fls M = X := ⟨_, rfl⟩
  obtain ⟨N2, hN2⟩ : ∃ N, (fls M2).length = N := ⟨_, rfl⟩
  obtain ⟨r, hr, _, hle⟩ := scn_back l0.length l0 (Nat.le_refl _)
  rw [hM] at hr hle
  obtain ⟨M3, hM3⟩ := scn_more l0 l1
  rw [← hG, hM, hM2] at hM3
  have HN := Lib.hid (show (fls M).length = X.length by rw [hX])
  have hXl : X.length ≤ n0 := by have h3 := congrArg List.length hr; rw [List.length_append, hX, HL.out] at h3; omega
  have HXD := Lib.hid (fun (u : World) (h : Bys u A0 l0) => show Bys u A0 X from by
    have h2 := h.take X.length
    rw [hr, hX, List.take_left' rfl] at h2
    exact h2)
  have HML := Lib.hid (show M.length ≤ 1000000 by have h2 := fls_le M; rw [hX] at h2; have := HL.out; omega)
  have HTS := Lib.hid (fun m (h : m < M.length) => show (M.getD m []).length ≤ 32768 from by
    rw [List.getD_eq_getElem?_getD, List.getElem?_eq_getElem h]; exact hle _ (List.getElem_mem h))
  have HFS := Lib.hid (fun m (h : m < M.length) => show fls (M.take (m + 1)) = fls (M.take m) ++ frm (M.getD m []) from by
    rw [List.take_add_one, List.getElem?_eq_getElem h, fls_append]; simp [List.getD, h, fls])
  have HLS := Lib.hid (fun m => show (fls (M.take m)).length ≤ X.length from by
    rw [← hX]; conv => rhs; rw [← List.take_append_drop m M, fls_append, List.length_append]
    omega)
  have HM := Lib.hid hM; have HM2 := Lib.hid hM2; have HX0 := Lib.hid hX; have HN2 := Lib.hid hN2
  have HG1 := Lib.hid (show (X.length : Int) ≤ (N2 : Int) by rw [← hN2, hM3, fls_append, List.length_append, hX]; omega)
  have HG2 := Lib.hid (show (M.length : Int) ≤ (M2.length : Int) by rw [hM3, List.length_append]; omega)
  have HXL := Lib.hid hXl
  have HQ := Lib.hid (fun (l : List UInt8) => show (((⟨l.toArray⟩ : ByteArray).toList == (⟨l.toArray⟩ : ByteArray).toList) = true) from by simp)
  clear hM hM2 hX hN2 hr hle hM3 hXl hG
  go_enter Tryd.func7, Tryd.ntmps7
  go_wp2_with (first
    | (go_at_call 17; (with_reducible refine (scan_any A0 n0 c0 l0 HL.out hc0 (by have := HM3.out; omega) _ (HD.out.below HB.out) (HW.out.below HB.out)).mono ?_); intro e u1 ht; obtain ⟨A3, c3, L, ⟨rfl, _⟩, hT, hk⟩ := ht.at HM.out HN.out; have hb := HB.out.trans (hk.bel.mono HB.out.size); have hk := hk.lift HB.out; clear HB ht; have HB := Lib.hid hb; have HK := Lib.hid hk; have HT := Lib.hid hT; clear hb hk hT))
  go_loopw [7, 28] (fun v i wr => ∃ m : Nat, m ≤ M.length ∧ i = .int .i64 m ∧ KO u1 v (fls (M.take m)) wr) (fun _ i _ => M.length - (intOf i).toNat)
  case atStart => exact ⟨0, by omega, rfl, by simpa [fls] using KO.start u1⟩
  case round =>
    obtain ⟨m, hm, rfl, hx⟩ := hrel
    have HX := Lib.hid hx
    clear hx
    by_cases hlt : m < M.length
    · obtain ⟨B1, d1, hx⟩ := txt_get HT.out hlt
      have HTL := Lib.hid (HTS.out m hlt)
      have HF1 := Lib.hid (HFS.out m hlt)
      have HLE := Lib.hid (show (fls (M.take m)).length + (frm (M.getD m [])).length ≤ 1048576 by
        have h1 := HLS.out (m + 1); rw [HF1.out, List.length_append] at h1; have := HXL.out; have := HM3.out; omega)
      generalize M.getD m [] = T at *
      obtain ⟨g1, rfl, q1, o1⟩ := HK.out.one hx
      have q2 : wr.cell? ⟨g1, m, none⟩ = some (.slice B1 T.length d1) := by rw [HX.out.bel.cell (cell_lt q1)]; exact q1
      have HO := Lib.hid o1.bys
      have i2 : (0 : Int) ≤ (m : Int) := by omega
      have i3 : (m : Int) < (M.length : Int) := by omega
      have i4 : (m : Int) ≤ 1000000 := by have := HML.out; omega
      clear hx o1 q1
      go_wp2_with (first
        | (go_at_call 11; (with_reducible refine (put_any _ _ _ T rfl HTL.out _ (HO.out.below HX.out.bel) (HW.out.below (HB.out.trans (HX.out.bel.mono HB.out.size)))).mono ?_); rintro e u ⟨A2, c2, ⟨rfl, _⟩, hk⟩; have hy := hk.own.bys; have hx := HX.out.call hk.bel; clear HX hk; have HX := Lib.hid hx; have HY := Lib.hid hy; clear hx hy)
        | (refine app_more HX.out HY.out rfl rfl _ _ rfl rfl rfl HLE.out ?_; intro v' u hk; rw [← HF1.out] at hk; clear HX; have HX := Lib.hid hk; clear hk))
      go_roundw
      case rel => exact ⟨m + 1, by omega, by go_num, HX.out⟩
      case measure => simp [intOf]; omega
    · obtain rfl : m = M.length := by omega
      have hx := HX.out
      rw [List.take_length, HX0.out] at hx
      obtain ⟨A5, c5, rfl, _⟩ := hx.part
      have HY := Lib.hid hx.own.bys
      have HB2 := Lib.hid (HB.out.trans (hx.bel.mono HB.out.size))
      clear HX hx
      go_wp2_with (first
        | (with_reducible refine build_none (Below.refl _ wr) rfl rfl ?_; intro v u hk hb; clear hb; have HK2 := Lib.hid hk; clear hk)
        | (refine app_more HK2.out ((HD.out.below HB2.out).below HK2.out.bel) HL.out rfl _ _ rfl rfl rfl (by have := HM3.out; have := HL.out; simp; omega) ?_; intro v' u hk; rw [List.nil_append] at hk; clear HK2; have HK2 := Lib.hid hk; clear hk)
        | (refine app_more HK2.out ((HD1.out.below HB2.out).below HK2.out.bel) HL1.out rfl _ _ rfl rfl rfl (by have := HM3.out; have := HL.out; have := HL1.out; omega) ?_; intro v' u hk; rw [← HG.out] at hk; obtain ⟨A6, c6, rfl, hc6⟩ := hk.part; clear HK2; have HK2 := Lib.hid hk; have HC6 := Lib.hid hc6; clear hk hc6)
        | (go_at_call 17; (with_reducible refine (scan_any _ _ _ G rfl HC6.out HGL.out _ HK2.out.own.bys (HW.out.below (HB2.out.trans (HK2.out.bel.mono HB2.out.size)))).mono ?_); intro e u ht; obtain ⟨A7, c7, L7, ⟨rfl, _⟩, hT, hk⟩ := ht.at HM2.out HN2.out; have hb := HK2.out.bel.trans (hk.bel.mono HK2.out.bel.size); clear HK2 ht hk hT; have HZ := Lib.hid hb; clear hb))
      refine Draws.start (S := KB w [(A5, X), (A0, l0)]) (n := 29) 29 rfl (by kernel_rfl) ?_
      have HS := Lib.hid (show KB w [(A5, X), (A0, l0)] (World.drew _) from KB.drew (KB.add (KB.add ⟨HB2.out.trans (HZ.out.mono HB2.out.size), fun _ h => by cases h⟩ (HD.out.below (HB2.out.trans (HZ.out.mono HB2.out.size)))) (HY.out.below HZ.out)))
      refine Draws.take 0 (v := ?v1) HS.out rfl (by kernel_rfl) (fun _ _ _ h => h) (Or.inl ⟨rfl, ?h1⟩) ?r1
      case h1 => intro w' hw'; go_simp; (try with_reducible rfl)
      (try simp only [Act.put, List.setIfInBounds_toArray, List.set_cons_zero, List.set_cons_succ])
      refine Draws.take 1 (v := ?v2) HS.out rfl (by kernel_rfl) (fun _ _ _ h => h) (Or.inl ⟨rfl, ?h2⟩) ?r2
      case h2 => intro w' hw'; go_simp; (try with_reducible rfl)
      (try simp only [Act.put, List.setIfInBounds_toArray, List.set_cons_zero, List.set_cons_succ])
      refine Draws.take 2 (v := ?v3) HS.out rfl (by kernel_rfl) (fun _ _ _ h => h) (Or.inl ⟨rfl, ?h3⟩) ?r3
      case h3 => intro w' hw'; go_simp; (try with_reducible rfl)
      (try simp only [Act.put, List.setIfInBounds_toArray, List.set_cons_zero, List.set_cons_succ])
      refine Draws.take 3 HS.out rfl (by kernel_rfl) (fun _ _ _ h => h) (yield_eqi _ _ _ rfl rfl rfl rfl) ?_
      (try simp only [Act.put, List.setIfInBounds_toArray, List.set_cons_zero, List.set_cons_succ])
      refine Draws.take 4 (v := ?v4) HS.out rfl (by kernel_rfl) (fun _ _ _ h => h) (Or.inl ⟨rfl, ?h4⟩) ?r4
      case h4 => intro w' hw'; go_simp; (try with_reducible rfl)
      (try simp only [Act.put, List.setIfInBounds_toArray, List.set_cons_zero, List.set_cons_succ])
      refine Draws.take 5 (v := ?v5) HS.out rfl (by kernel_rfl) (fun _ _ _ h => h) (Or.inl ⟨rfl, ?h5⟩) ?r5
      case h5 => intro w' hw'; go_simp; (try with_reducible rfl)
      (try simp only [Act.put, List.setIfInBounds_toArray, List.set_cons_zero, List.set_cons_succ])
      refine Draws.take 6 HS.out rfl (by kernel_rfl) (fun _ _ _ h => h) (yield_str (fun _ h => h.get 0 rfl) rfl _ rfl rfl rfl) ?_
      (try simp only [Act.put, List.setIfInBounds_toArray, List.set_cons_zero, List.set_cons_succ])
      refine Draws.take 7 (v := ?v6) HS.out rfl (by kernel_rfl) (fun _ _ _ h => h) (Or.inl ⟨rfl, ?h6⟩) ?r6
      case h6 => intro w' hw'; go_simp; (try with_reducible rfl)
      (try simp only [Act.put, List.setIfInBounds_toArray, List.set_cons_zero, List.set_cons_succ])
      refine Draws.take 8 (v := ?v7) HS.out rfl (by kernel_rfl) (fun _ _ _ h => h) (Or.inl ⟨rfl, ?h7⟩) ?r7
      case h7 => intro w' hw'; go_simp; (try with_reducible rfl)
      (try simp only [Act.put, List.setIfInBounds_toArray, List.set_cons_zero, List.set_cons_succ])
      refine Draws.take 9 HS.out rfl (by kernel_rfl) (fun _ _ _ h => h) (yield_high (by have := HXL.out; omega) _ _ rfl rfl rfl rfl) ?_
      (try simp only [Act.put, List.setIfInBounds_toArray, List.set_cons_zero, List.set_cons_succ])
      refine Draws.take 10 HS.out rfl (by kernel_rfl) (fun _ _ _ h => h) (yield_str (fun _ h => HXD.out _ (h.get 1 rfl)) rfl _ rfl rfl rfl) ?_
      (try simp only [Act.put, List.setIfInBounds_toArray, List.set_cons_zero, List.set_cons_succ])
      refine Draws.take 11 HS.out rfl (by kernel_rfl) (fun _ _ _ h => h) (yield_eqs (HQ.out X) _ _ _ rfl rfl rfl rfl) ?_
      (try simp only [Act.put, List.setIfInBounds_toArray, List.set_cons_zero, List.set_cons_succ])
      refine Draws.take 12 (v := ?v8) HS.out rfl (by kernel_rfl) (fun _ _ _ h => h) (Or.inl ⟨rfl, ?h8⟩) ?r8
      case h8 => intro w' hw'; go_simp; (try with_reducible rfl)
      (try simp only [Act.put, List.setIfInBounds_toArray, List.set_cons_zero, List.set_cons_succ])
      refine Draws.take 13 (v := ?v9) HS.out rfl (by kernel_rfl) (fun _ _ _ h => h) (Or.inl ⟨rfl, ?h9⟩) ?r9
      case h9 => intro w' hw'; go_simp; (try with_reducible rfl)
      (try simp only [Act.put, List.setIfInBounds_toArray, List.set_cons_zero, List.set_cons_succ])
      refine Draws.take 14 (v := ?v10) HS.out rfl (by kernel_rfl) (fun _ _ _ h => h) (Or.inl ⟨rfl, ?h10⟩) ?r10
      case h10 => intro w' hw'; go_simp; (try with_reducible rfl)
      (try simp only [Act.put, List.setIfInBounds_toArray, List.set_cons_zero, List.set_cons_succ])
      refine Draws.take 15 (v := ?v11) HS.out rfl (by kernel_rfl) (fun _ _ _ h => h) (Or.inl ⟨rfl, ?h11⟩) ?r11
      case h11 => intro w' hw'; go_simp; (try with_reducible rfl)
      (try simp only [Act.put, List.setIfInBounds_toArray, List.set_cons_zero, List.set_cons_succ])
      refine Draws.take 16 HS.out rfl (by kernel_rfl) (fun _ _ _ h => h) (yield_geq HG1.out _ _ _ rfl rfl rfl rfl) ?_
      (try simp only [Act.put, List.setIfInBounds_toArray, List.set_cons_zero, List.set_cons_succ])
      refine Draws.take 17 (v := ?v12) HS.out rfl (by kernel_rfl) (fun _ _ _ h => h) (Or.inl ⟨rfl, ?h12⟩) ?r12
      case h12 => intro w' hw'; go_simp; (try with_reducible rfl)
      (try simp only [Act.put, List.setIfInBounds_toArray, List.set_cons_zero, List.set_cons_succ])
      refine Draws.take 18 (v := ?v13) HS.out rfl (by kernel_rfl) (fun _ _ _ h => h) (Or.inl ⟨rfl, ?h13⟩) ?r13
      case h13 => intro w' hw'; go_simp; (try with_reducible rfl)
      (try simp only [Act.put, List.setIfInBounds_toArray, List.set_cons_zero, List.set_cons_succ])
      refine Draws.take 19 (v := ?v14) HS.out rfl (by kernel_rfl) (fun _ _ _ h => h) (Or.inl ⟨rfl, ?h14⟩) ?r14
      case h14 => intro w' hw'; go_simp; (try with_reducible rfl)
      (try simp only [Act.put, List.setIfInBounds_toArray, List.set_cons_zero, List.set_cons_succ])
      refine Draws.take 20 (v := ?v15) HS.out rfl (by kernel_rfl) (fun _ _ _ h => h) (Or.inl ⟨rfl, ?h15⟩) ?r15
      case h15 => intro w' hw'; go_simp; (try with_reducible rfl)
      (try simp only [Act.put, List.setIfInBounds_toArray, List.set_cons_zero, List.set_cons_succ])
      refine Draws.take 21 (v := ?v16) HS.out rfl (by kernel_rfl) (fun _ _ _ h => h) (Or.inl ⟨rfl, ?h16⟩) ?r16
      case h16 => intro w' hw'; go_simp; (try with_reducible rfl)
      (try simp only [Act.put, List.setIfInBounds_toArray, List.set_cons_zero, List.set_cons_succ])
      refine Draws.take 22 (v := ?v17) HS.out rfl (by kernel_rfl) (fun _ _ _ h => h) (Or.inl ⟨rfl, ?h17⟩) ?r17
      case h17 => intro w' hw'; go_simp; (try with_reducible rfl)
      (try simp only [Act.put, List.setIfInBounds_toArray, List.set_cons_zero, List.set_cons_succ])
      refine Draws.take 23 HS.out rfl (by kernel_rfl) (fun _ _ _ h => h) (yield_geq HG2.out _ _ _ rfl rfl rfl rfl) ?_
      (try simp only [Act.put, List.setIfInBounds_toArray, List.set_cons_zero, List.set_cons_succ])
      refine Draws.take 24 (v := ?v18) HS.out rfl (by kernel_rfl) (fun _ _ _ h => h) (Or.inl ⟨rfl, ?h18⟩) ?r18
      case h18 => intro w' hw'; go_simp; (try with_reducible rfl)
      (try simp only [Act.put, List.setIfInBounds_toArray, List.set_cons_zero, List.set_cons_succ])
      refine Draws.take 25 (v := ?v19) HS.out rfl (by kernel_rfl) (fun _ _ _ h => h) (Or.inl ⟨rfl, ?h19⟩) ?r19
      case h19 => intro w' hw'; go_simp; (try with_reducible rfl)
      (try simp only [Act.put, List.setIfInBounds_toArray, List.set_cons_zero, List.set_cons_succ])
      refine Draws.does 26 rfl (by kernel_rfl) rfl (fun K hK => ?_)
      go_simp
      go_at_call 10
      refine (awake_any _ (HW.out.below HS.out.bel)).mono ?_
      rintro e u ⟨rfl, hb⟩
      (try dsimp only)
      refine hK.out _ _ (fun _ => HS.out.call hb) ?_
      clear hK K
      have hs := HS.out.call hb
      clear HS hb
      have HS := Lib.hid hs; clear hs
      (try simp only [Act.put, List.setIfInBounds_toArray, List.set_cons_zero, List.set_cons_succ])
      refine Draws.take 27 (v := ?v20) HS.out rfl (by kernel_rfl) (fun _ _ _ h => h) (Or.inl ⟨rfl, ?h20⟩) ?r20
      case h20 => intro w' hw'; go_simp; (try with_reducible rfl)
      (try simp only [Act.put, List.setIfInBounds_toArray, List.set_cons_zero, List.set_cons_succ])
      refine Draws.take 28 (v := ?v21) HS.out rfl (by kernel_rfl) (fun _ _ _ h => h) (Or.inl ⟨rfl, ?h21⟩) ?r21
      case h21 => intro w' hw'; go_simp; (try with_reducible rfl)
      (try simp only [Act.put, List.setIfInBounds_toArray, List.set_cons_zero, List.set_cons_succ])
      refine Draws.done (by kernel_rfl) ?_
      go_wp2_with (first
        | fail)
      go_ret
      exact ⟨rfl, HS.out.bel⟩

set_option maxRecDepth 100000 in
theorem lifted (os : Os) (started : os.Started) (H : Type) (enc : TypeId × Value → H) :
    ReturnsInHanded {} Tryd.checked os 7 .any (fun w args => (Rows.frameScansSpec.pre enc Tryd.prog Tryd.f7 [] false w args ∧ laidMetH Tryd.prog laid w) ∧ sizedMet enc Tryd.prog Tryd.f7 (OpenSpec.ofChange Rows.frameScansSpec) false w args)
      (Rows.frameScansSpec.post enc Tryd.prog Tryd.f7 false true false false) := by
  refine returnsInHanded_of_change_and (C := Tryd.checked) (X := fun w _ => laidMetH Tryd.prog laid w) (fun _ _ _ hh h => h.of_heap hh) own started (by kernel_rfl) Tryd.func7
    (ChangeSpec.witness_shaped (enc := enc) (C := Tryd.checked) (os := os) (X := fun w _ => laidMetH Tryd.prog laid w) false (World.doorLaid Tryd.prog 400 os) #[.slice none 0 0, .slice none 0 0] 12 rfl (World.shaped_of_RefB (by kernel_rfl) (by kernel_rfl)) (by kernel_rfl) (by kernel_rfl) (by kernel_rfl) (door_met os _)) ?_
  intro W base args ds gs before hval0 hW _ hsz0 hL _
  have hsz : (DataW.weightsEach Tryd.prog (Tryd.f7.params.toList ++ Rows.frameScansSpec.plain.varTypes Tryd.prog) (ds ++ gs)).all (· ≤ reachBytes) = true := hsz0
  clear hsz0
  have hval : ∀ (j : Nat) t v, Tryd.f7.params[j]? = some t → args[j]? = some v → Value.okWide Tryd.prog W .any base t v := hval0
  have hW' := hW
  obtain ⟨p, q, hA0, hV, rfl, hfz, hnd⟩ := hW
  have hA : DataW.TrodAll enc Tryd.prog W 0 (fun _ => true) true Tryd.f7.params.toList args.toList ds p := hA0
  rw [Tryd.params7] at hA hval hsz
  obtain ⟨v0, vs0, d0, ds0, q0, r0, hargs, rfl, rfl, h0, t0⟩ := trodAll_cons hA
  obtain ⟨v1, vs1, d1, ds1, q1, r1, rfl, rfl, rfl, h1, t1⟩ := trodAll_cons t0
  obtain ⟨rfl, rfl, rfl⟩ := trodAll_nil t1
  obtain rfl : args = #[v0, v1] := by cases args; simp_all
  obtain ⟨rfl, rfl⟩ := trodVars_none hV
  have k0 := h0
  have lt0 : ∀ x ∈ q0, x.block < W.heap.size := by obtain ⟨m, hm⟩ := k0; exact DataW.trod_lt m _ _ _ hm
  obtain ⟨A0, n0, c0, l0, rfl, hl0, hc0, hm0, hd0⟩ := open_b (hval 0 22 v0 rfl rfl) h0
  have hr0 := reach_b h0 hsz (j := 0) rfl rfl
  have k1 := h1
  have lt1 : ∀ x ∈ q1, x.block < W.heap.size := by obtain ⟨m, hm⟩ := k1; exact DataW.trod_lt m _ _ _ hm
  obtain ⟨A1, n1, c1, l1, rfl, hl1, hc1, hm1, hd1⟩ := open_b (hval 1 22 v1 rfl rfl) h1
  have hr1 := reach_b h1 hsz (j := 1) rfl rfl
  have hw := nib_of_laid hL
  clear hA0 hval0
  refine (walk W hw A0 n0 c0 l0 hl0 hc0 hm0 hd0 hr0 A1 n1 c1 l1 hl1 hc1 hm1 hd1 hr1).mono fun e W' ⟨he, bel⟩ => ?_
  subst he
  exact ⟨_, rfl, _, _, _, [], _, [], hW', trodAll_mk1 (shut_bool Tryd.underlying4 _), (trodAll_cons_mk (Below.trod laidOut (by kernel_rfl) (of_decide_eq_true (by kernel_rfl)) k0 bel lt0) (trodAll_cons_mk (Below.trod laidOut (by kernel_rfl) (of_decide_eq_true (by kernel_rfl)) k1 bel lt1) trodAll_mk0)), rfl, bel.frame _, fun h => by cases h⟩

theorem over : Rows.frameScansRow.holds Tryd.pinned (OpenSpec.ofChange Rows.frameScansSpec) :=
  OpenClaim.holds_of_wide 7 Tryd.f7 rfl rfl rfl rfl rfl rfl rfl ⟨rfl, rfl, rfl, rfl, rfl⟩ rfl rfl rfl rfl rfl (by kernel_rfl) Tryd.func7 (by kernel_rfl)
    (of_decide_eq_true (by kernel_rfl)) (by unfold Func.isWrapper; first | (rw [if_pos (by decide +kernel)]; kernel_rfl) | (rw [if_neg (by decide +kernel)]; exact ⟨rfl, rfl⟩))
    (fun os started H enc _ => lifted os started H enc)

theorem card_holds : Claim7.holds Tryd.pinned (.plain (OpenSpec.ofChange Rows.frameScansSpec)) Rows.frameScansCard :=
  Claim7.holds_tied_plain_at .later [] [.data] true (true, "a244ffbdcca26050101f612f586af2cfca3849d720ebd70499b280c37875cc29") false
    over (fun _ h => by cases h) (by kernel_rfl) (fun _ h => by cases h) frameScans_row_tie rfl ⟨rfl, rfl⟩ (by kernel_rfl) rfl
    (fun f fn hf hfn => by
      obtain rfl : f = 7 := Option.some.inj ((show Tryd.prog.funcNamed "usufruct/usufructlaw09.FrameScans" = some 7 by kernel_rfl).symm.trans hf) |>.symm
      obtain rfl : fn = Tryd.f7 := (Option.some.inj (Tryd.func7.symm.trans hfn)).symm
      exact ⟨by kernel_rfl, fun j t ht => by
        rw [Tryd.params7] at ht
        have hm : t ∈ [22, 22] := by simpa using Array.mem_of_getElem? ht
        have hall : ([22, 22].all fun u => !Tryd.prog.wantsStandIn u) = true := by kernel_rfl
        exact (show Tryd.prog.wantsStandIn t = false by simpa using List.all_eq_true.1 hall t hm)⟩)
    (by kernel_rfl)
theorem proved : Rows.FrameScansCardSaid := card_holds
#print axioms proved
end Go.Proofs.YtgeicgcpgndlfaaDoor.frameScans
