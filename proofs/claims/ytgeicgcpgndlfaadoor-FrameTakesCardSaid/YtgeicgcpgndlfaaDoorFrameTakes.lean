/- For every slice of bytes usufructlaw09.FrameTakes returns true, and it reads as before. Condition: the package-level variable frame.nibbles reads, when the call begins, as the program lays it (the card ties that to the program, by the tie that is given with the seat; that nothing else writes it is the translator's report). -/
import Derived.Test.YtgeicgcpgndlfaaDoorFe
import Derived.WalkKit
import Derived.ProofKit
import Derived.OpenShut
import Derived.ShutString
import Derived.ChangeOld
import Derived.Below
import Derived.Test.YtgeicgcpgndlfaaDoorTie
import Derived.Test.YtgeicgcpgndlfaaDoorCards
import Derived.SevenTiedAt
namespace Go.Proofs.YtgeicgcpgndlfaaDoor.frameTakes
open Go.ChangeShapes Go.WideShapes Go.ChangeAt Go.RowKit
set_option linter.unusedVariables false


set_option maxRecDepth 100000 in
set_option maxHeartbeats 4000000 in
theorem walk (w : World) (hw : Nib w) (A0 : Option Addr) (n0 c0 : Nat) (l0 : List UInt8) (hl0 : l0.length = n0) (hc0 : n0 ≤ c0) (hm0 : c0 ≤ maxLen) (hd0 : Bys w A0 l0) (hr0 : n0 ≤ 140737488351232) :
    Calls Tryd.prog 4 #[.slice A0 n0 c0] w fun e w' => e = .returned (.bool true) ∧ Below w.heap.size w w' := by
  have HB := Lib.hid (Below.refl w.heap.size w)
  have HW := Lib.hid hw
  by_cases h1 : 3000 < n0
  · have i1 : (3000 : Int) < (n0 : Int) := by omega
    go_enter Tryd.func4, Tryd.ntmps4
    go_wp2_with (first
      | (go_at_call 10; (with_reducible refine (awake_any _ (HW.out.below HB.out)).mono ?_); rintro e u ⟨rfl, hb⟩; have hb := HB.out.trans (hb.mono HB.out.size); clear HB; have HB := Lib.hid hb; clear hb))
    go_ret
    exact ⟨rfl, HB.out⟩
  have i1 : ¬ (3000 : Int) < (n0 : Int) := by omega
  have HD := Lib.hid hd0; have HL := Lib.hid hl0
  clear hd0 hl0 hw
  obtain ⟨P, hP⟩ : ∃ P, tkP l0 = P := ⟨_, rfl⟩
  obtain ⟨S, hS⟩ : ∃ S, tkS l0 = S := ⟨_, rfl⟩
  obtain ⟨E, hE⟩ : ∃ E, tkE l0 = E := ⟨_, rfl⟩
  obtain ⟨M, hM⟩ : ∃ M, scn l0 = M := ⟨_, rfl⟩
  obtain ⟨N, hN⟩ : ∃ N, (fls M).length = N := ⟨_, rfl⟩
  have HML := Lib.hid (show M.length ≤ 1000000 by
    obtain ⟨r, e, _⟩ := scn_back l0.length l0 (Nat.le_refl _)
    have h2 := fls_le (scn l0)
    have h3 := congrArg List.length e
    rw [List.length_append] at h3
    rw [← hM]; have := HL.out; omega)
  have HP := Lib.hid hP; have HS := Lib.hid hS; have HE := Lib.hid hE; have HM := Lib.hid hM; have HN := Lib.hid hN
  have HQ := Lib.hid (show (((⟨P.toArray⟩ : ByteArray).toList == (⟨P.toArray⟩ : ByteArray).toList) = true) from by simp)
  clear hP hS hE hM hN
  go_enter Tryd.func4, Tryd.ntmps4
  go_wp2_with (first
    | (go_at_call 15; (with_reducible refine (take_any A0 n0 c0 l0 HL.out hc0 (by omega) _ (HD.out.below HB.out) (HW.out.below HB.out)).mono ?_); rintro e u ⟨A1, c1, ⟨rfl, _⟩, hk⟩; rw [HP.out] at hk; have hb := HB.out.trans (hk.bel.mono HB.out.size); have hy := hk.own.bys; clear HB hk; have HB := Lib.hid hb; have HY := Lib.hid hy; clear hb hy; rw [HP.out, HS.out, HE.out])
    | (go_at_call 16; (with_reducible refine (rtake_any A0 n0 c0 l0 HL.out hc0 (by omega) _ (HD.out.below HB.out)).mono ?_); rintro e u ⟨A2, c2, ⟨rfl, _⟩, hk⟩; rw [HP.out] at hk; have hb := HB.out.trans (hk.bel.mono HB.out.size); have hy := hk.own.bys; have hy1 := HY.out.below hk.bel; clear HB HY hk; have HB := Lib.hid hb; have HY := Lib.hid hy1; have HY2 := Lib.hid hy; clear hb hy hy1; rw [HP.out, HS.out, HE.out])
    | (go_at_call 17; (with_reducible refine (scan_any A0 n0 c0 l0 HL.out hc0 (by omega) _ (HD.out.below HB.out) (HW.out.below HB.out)).mono ?_); intro e u ht; obtain ⟨A3, c3, L, ⟨rfl, _⟩, hT, hk⟩ := ht.at HM.out HN.out; have hb := HB.out.trans (hk.bel.mono HB.out.size); have hy1 := HY.out.below hk.bel; have hy2 := HY2.out.below hk.bel; have hk := hk.lift HB.out; clear HB HY HY2 ht; have HB := Lib.hid hb; have HY := Lib.hid hy1; have HY2 := Lib.hid hy2; have HK := Lib.hid hk; have HT := Lib.hid hT; clear hb hy1 hy2 hk hT)
    | (go_at_call 18; (with_reducible refine (rscan_any A0 n0 c0 l0 HL.out hc0 (by omega) _ (HD.out.below HB.out)).mono ?_); intro e u ht; obtain ⟨A4, c4, L2, ⟨rfl, _⟩, hT, hk⟩ := ht.at HM.out HN.out; have hb := HB.out.trans (hk.bel.mono HB.out.size); have hy1 := HY.out.below hk.bel; have hy2 := HY2.out.below hk.bel; have hk1 := HK.out.call hk.bel; have hk := hk.lift HB.out; clear HB HY HY2 HK ht; have HB := Lib.hid hb; have HY := Lib.hid hy1; have HY2 := Lib.hid hy2; have HK := Lib.hid hk1; have HK2 := Lib.hid hk; have HT2 := Lib.hid hT; clear hb hy1 hy2 hk1 hk hT)
    | (with_reducible refine to_str HY.out rfl rfl _ rfl rfl ?_)
    | (with_reducible refine to_str HY2.out rfl rfl _ rfl rfl ?_)
    | (refine ne_str HQ.out rfl _ _ _ rfl rfl rfl ?_))
  go_loopw [69] (fun i wr => ∃ m : Nat, m ≤ M.length ∧ i = .int .i64 m ∧ KL w (.slice A3 M.length c3) L wr ∧ KL w (.slice A4 M.length c4) L2 wr) (fun i _ => M.length - (intOf i).toNat)
  case atStart => exact ⟨0, by omega, rfl, HK.out, HK2.out⟩
  case round =>
    obtain ⟨m, hm, rfl, hk1, hk2⟩ := hrel
    clear HK HK2 HY HY2
    have HK := Lib.hid hk1; have HK2 := Lib.hid hk2
    clear hk1 hk2
    by_cases hlt : m < M.length
    · obtain ⟨B1, d1, hx⟩ := txt_get HT.out hlt
      obtain ⟨B2, d2, hy⟩ := txt_get HT2.out hlt
      generalize M.getD m [] = T at hx hy
      obtain ⟨g1, rfl, q1, o1⟩ := HK.out.one hx
      obtain ⟨g2, rfl, q2, o2⟩ := HK2.out.one hy
      have s1 := fun q : Nat => run_str (o1.bys.drewN q) d1
      have s2 := fun q : Nat => run_str (o2.bys.drewN q) d2
      have hq : ((⟨T.toArray⟩ : ByteArray).toList == (⟨T.toArray⟩ : ByteArray).toList) = true := by simp
      have i2 : (0 : Int) ≤ (m : Int) := by omega
      have i3 : (m : Int) < (M.length : Int) := by omega
      have i4 : (m : Int) ≤ 1000000 := by have := HML.out; omega
      clear hx hy o1 o2
      generalize T.length = t at *
      go_wp2_with fail
      go_quiet (fail)
      have hk1 := HK.out.drewN nq
      have hk2 := HK2.out.drewN nq
      clear HK HK2
      have HK := Lib.hid hk1; have HK2 := Lib.hid hk2
      clear hk1 hk2 s1 s2 q1 q2
      go_wp2_with fail
      go_roundw
      case rel => exact ⟨m + 1, by omega, by go_num, HK.out, HK2.out⟩
      case measure => simp [intOf]; omega
    · obtain rfl : m = M.length := by omega
      have hb := HK.out.bel
      have HB := Lib.hid hb
      clear hb
      go_wp2_with (first
        | (go_at_call 10; (with_reducible refine (awake_any _ (HW.out.below HB.out)).mono ?_); rintro e u ⟨rfl, hb⟩; have hb := HB.out.trans (hb.mono HB.out.size); clear HB; have HB := Lib.hid hb; clear hb))
      go_ret
      exact ⟨rfl, HB.out⟩

set_option maxRecDepth 100000 in
theorem lifted (os : Os) (started : os.Started) (H : Type) (enc : TypeId × Value → H) :
    ReturnsInHanded {} Tryd.checked os 4 .any (fun w args => (Rows.frameTakesSpec.pre enc Tryd.prog Tryd.f4 [] false w args ∧ laidMetH Tryd.prog laid w) ∧ sizedMet enc Tryd.prog Tryd.f4 (OpenSpec.ofChange Rows.frameTakesSpec) false w args)
      (Rows.frameTakesSpec.post enc Tryd.prog Tryd.f4 false true false false) := by
  refine returnsInHanded_of_change_and (C := Tryd.checked) (X := fun w _ => laidMetH Tryd.prog laid w) (fun _ _ _ hh h => h.of_heap hh) own started (by kernel_rfl) Tryd.func4
    (ChangeSpec.witness_shaped (enc := enc) (C := Tryd.checked) (os := os) (X := fun w _ => laidMetH Tryd.prog laid w) false (World.doorLaid Tryd.prog 400 os) #[.slice none 0 0] 12 rfl (World.shaped_of_RefB (by kernel_rfl) (by kernel_rfl)) (by kernel_rfl) (by kernel_rfl) (by kernel_rfl) (door_met os _)) ?_
  intro W base args ds gs before hval0 hW _ hsz0 hL _
  have hsz : (DataW.weightsEach Tryd.prog (Tryd.f4.params.toList ++ Rows.frameTakesSpec.plain.varTypes Tryd.prog) (ds ++ gs)).all (· ≤ reachBytes) = true := hsz0
  clear hsz0
  have hval : ∀ (j : Nat) t v, Tryd.f4.params[j]? = some t → args[j]? = some v → Value.okWide Tryd.prog W .any base t v := hval0
  have hW' := hW
  obtain ⟨p, q, hA0, hV, rfl, hfz, hnd⟩ := hW
  have hA : DataW.TrodAll enc Tryd.prog W 0 (fun _ => true) true Tryd.f4.params.toList args.toList ds p := hA0
  rw [Tryd.params4] at hA hval hsz
  obtain ⟨v0, vs0, d0, ds0, q0, r0, hargs, rfl, rfl, h0, t0⟩ := trodAll_cons hA
  obtain ⟨rfl, rfl, rfl⟩ := trodAll_nil t0
  obtain rfl : args = #[v0] := by cases args; simp_all
  obtain ⟨rfl, rfl⟩ := trodVars_none hV
  have k0 := h0
  have lt0 : ∀ x ∈ q0, x.block < W.heap.size := by obtain ⟨m, hm⟩ := k0; exact DataW.trod_lt m _ _ _ hm
  obtain ⟨A0, n0, c0, l0, rfl, hl0, hc0, hm0, hd0⟩ := open_b (hval 0 22 v0 rfl rfl) h0
  have hr0 := reach_b h0 hsz (j := 0) rfl rfl
  have hw := nib_of_laid hL
  clear hA0 hval0
  refine (walk W hw A0 n0 c0 l0 hl0 hc0 hm0 hd0 hr0).mono fun e W' ⟨he, bel⟩ => ?_
  subst he
  exact ⟨_, rfl, _, _, _, [], _, [], hW', trodAll_mk1 (shut_bool Tryd.underlying4 _), (trodAll_cons_mk (Below.trod laidOut (by kernel_rfl) (of_decide_eq_true (by kernel_rfl)) k0 bel lt0) trodAll_mk0), rfl, bel.frame _, fun h => by cases h⟩

theorem over : Rows.frameTakesRow.holds Tryd.pinned (OpenSpec.ofChange Rows.frameTakesSpec) :=
  OpenClaim.holds_of_wide 4 Tryd.f4 rfl rfl rfl rfl rfl rfl rfl ⟨rfl, rfl, rfl, rfl, rfl⟩ rfl rfl rfl rfl rfl (by kernel_rfl) Tryd.func4 (by kernel_rfl)
    (of_decide_eq_true (by kernel_rfl)) (by unfold Func.isWrapper; first | (rw [if_pos (by decide +kernel)]; kernel_rfl) | (rw [if_neg (by decide +kernel)]; exact ⟨rfl, rfl⟩))
    (fun os started H enc _ => lifted os started H enc)

theorem card_holds : Claim7.holds Tryd.pinned (.plain (OpenSpec.ofChange Rows.frameTakesSpec)) Rows.frameTakesCard :=
  Claim7.holds_tied_plain_at .later [] [.data] true (true, "a244ffbdcca26050101f612f586af2cfca3849d720ebd70499b280c37875cc29") false
    over (fun _ h => by cases h) (by kernel_rfl) (fun _ h => by cases h) frameTakes_row_tie rfl ⟨rfl, rfl⟩ (by kernel_rfl) rfl
    (fun f fn hf hfn => by
      obtain rfl : f = 4 := Option.some.inj ((show Tryd.prog.funcNamed "usufruct/usufructlaw09.FrameTakes" = some 4 by kernel_rfl).symm.trans hf) |>.symm
      obtain rfl : fn = Tryd.f4 := (Option.some.inj (Tryd.func4.symm.trans hfn)).symm
      exact ⟨by kernel_rfl, fun j t ht => by
        rw [Tryd.params4] at ht
        have hm : t ∈ [22] := by simpa using Array.mem_of_getElem? ht
        have hall : ([22].all fun u => !Tryd.prog.wantsStandIn u) = true := by kernel_rfl
        exact (show Tryd.prog.wantsStandIn t = false by simpa using List.all_eq_true.1 hall t hm)⟩)
    (by kernel_rfl)
theorem proved : Rows.FrameTakesCardSaid := card_holds
#print axioms proved
end Go.Proofs.YtgeicgcpgndlfaaDoor.frameTakes
