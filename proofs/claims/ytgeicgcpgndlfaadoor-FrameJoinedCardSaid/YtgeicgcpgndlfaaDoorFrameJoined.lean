/- For every slice of bytes, int and byte usufructlaw09.FrameJoined returns true, and each argument reads as before. Condition: the package-level variable frame.nibbles reads, when the call begins, as the program lays it (the card ties that to the program, by the tie that is given with the seat; that nothing else writes it is the translator's report). -/
import Derived.Test.YtgeicgcpgndlfaaDoorFz
import Derived.WalkKit
import Derived.ProofKit
import Derived.OpenShut
import Derived.ShutString
import Derived.ChangeOld
import Derived.Below
import Derived.Test.YtgeicgcpgndlfaaDoorTie
import Derived.Test.YtgeicgcpgndlfaaDoorCards
import Derived.SevenTiedAt
namespace Go.Proofs.YtgeicgcpgndlfaaDoor.frameJoined
open Go.ChangeShapes Go.WideShapes Go.ChangeAt Go.RowKit
set_option linter.unusedVariables false


set_option maxRecDepth 100000 in
set_option maxHeartbeats 4000000 in
theorem walk (w : World) (hw : Nib w) (A0 : Option Addr) (n0 c0 : Nat) (l0 : List UInt8) (hl0 : l0.length = n0) (hc0 : n0 ≤ c0) (hm0 : c0 ≤ maxLen) (hd0 : Bys w A0 l0) (hr0 : n0 ≤ 140737488351232) (a1 : Int) (w1 : (Lit.int .i64 a1).wf = true) (a2 : Int) (w2 : (Lit.int .u8 a2).wf = true) :
    Calls Tryd.prog 9 #[.slice A0 n0 c0, .int .i64 a1, .int .u8 a2] w fun e w' => e = .returned (.bool true) ∧ Below w.heap.size w w' := by
  have HB := Lib.hid (Below.refl w.heap.size w)
  have HW := Lib.hid hw
  subst hl0
  by_cases h1 : 3000 < l0.length
  · have i1 : (3000 : Int) < (l0.length : Int) := by omega
    go_enter Tryd.func9, Tryd.ntmps9
    go_wp2_with (first
      | (go_at_call 10; (with_reducible refine (awake_any _ (HW.out.below HB.out)).mono ?_); rintro e u ⟨rfl, hb⟩; have hb := HB.out.trans (hb.mono HB.out.size); clear HB; have HB := Lib.hid hb; clear hb))
    go_ret
    exact ⟨rfl, HB.out⟩
  have i1 : ¬ (3000 : Int) < (l0.length : Int) := by omega
  by_cases h2 : a1 < 0
  · go_enter Tryd.func9, Tryd.ntmps9
    go_wp2_with (first
      | (go_at_call 10; (with_reducible refine (awake_any _ (HW.out.below HB.out)).mono ?_); rintro e u ⟨rfl, hb⟩; have hb := HB.out.trans (hb.mono HB.out.size); clear HB; have HB := Lib.hid hb; clear hb))
    go_ret
    exact ⟨rfl, HB.out⟩
  by_cases h3 : (l0.length : Int) ≤ a1
  · go_enter Tryd.func9, Tryd.ntmps9
    go_wp2_with (first
      | (go_at_call 10; (with_reducible refine (awake_any _ (HW.out.below HB.out)).mono ?_); rintro e u ⟨rfl, hb⟩; have hb := HB.out.trans (hb.mono HB.out.size); clear HB; have HB := Lib.hid hb; clear hb))
    go_ret
    exact ⟨rfl, HB.out⟩
  obtain ⟨d, rfl⟩ := u8_of w2
  by_cases h4 : d = 0
  · subst h4
    have i4 : (((0 : UInt8).toNat : Int) == 0) = true := rfl
    have i5 : ((0 : UInt8).toNat : Int) = 0 := rfl
    rw [i5]
    go_enter Tryd.func9, Tryd.ntmps9
    go_wp2_with (first
      | (go_at_call 10; (with_reducible refine (awake_any _ (HW.out.below HB.out)).mono ?_); rintro e u ⟨rfl, hb⟩; have hb := HB.out.trans (hb.mono HB.out.size); clear HB; have HB := Lib.hid hb; clear hb))
    go_ret
    exact ⟨rfl, HB.out⟩
  have hd' : d.toNat ≠ 0 := fun e => h4 (UInt8.toNat_inj.1 e)
  have i4 : ((d.toNat : Int) == 0) = false := beq_eq_false_iff_ne.2 (by omega)
  obtain ⟨k, rfl⟩ := Int.eq_ofNat_of_zero_le (show 0 ≤ a1 by omega)
  have i3 : (k : Int) < (l0.length : Int) := by omega
  have i6 : (0 : Int) ≤ (k : Int) := by omega
  have HD := Lib.hid hd0; have HM := Lib.hid (show l0.length ≤ 3000 by omega)
  have HKL := Lib.hid (show k < l0.length by omega)
  have HP := Lib.hid (show 0 < l0.length by omega)
  have hne := crc_turned (l := l0) (k := k) (d := l0.getD k 0 ^^^ d) HKL.out (xor8_ne h4)
  generalize hz : l0.getD k 0 = z at *
  have HZ := Lib.hid hz
  have hxx := xor8 z d
  generalize hSX : crc (l0.set k (z ^^^ d)) = SX at *
  generalize hS0 : crc l0 = S0 at *
  have HSL := Lib.hid (show (l0.set k (z ^^^ d)).length = l0.length by simp)
  have HSX := Lib.hid hSX; have HS0 := Lib.hid hS0
  have hx : ((SX : Int) != (S0 : Int)) = true := by simp; omega
  have hx2 : ((SX : Int) == (S0 : Int)) = false := by simp; omega
  clear hz hSX hS0 hne hd0 hw h1 h2 h3 h4 hd'
  go_enter Tryd.func9, Tryd.ntmps9
  go_wp2_with (first
    | (with_reducible refine build_none HB.out rfl rfl ?_; intro v u hk hb; clear HB hb; have HK := Lib.hid hk; clear hk)
    | (refine app_more HK.out (HD.out.below HK.out.bel) rfl rfl _ _ rfl rfl rfl (by have := HM.out; simp; omega) ?_; intro v' u hk; rw [List.nil_append] at hk; obtain ⟨g, c3, rfl, hc3⟩ := hk.row HP.out; have hcell := hk.cell (k := k) HKL.out; rw [HZ.out] at hcell; clear HK; have HK := Lib.hid hk; clear hk hc3)
    | (refine store_byte HK.out rfl HKL.out (z ^^^ d) (by rw [UInt8.toNat_xor]) rfl rfl _ _ rfl rfl rfl ?_; intro u hk; clear HK hcell; have HK := Lib.hid hk; clear hk)
    | (go_at_call 13; (with_reducible refine (sum_at _ _ _ (l0.set k (z ^^^ d)) SX HSL.out (by have := HM.out; omega) HSX.out _ HK.out.own.bys (HW.out.below HK.out.bel)).mono ?_); rintro e u ⟨rfl, rfl⟩)
    | (go_at_call 13; (with_reducible refine (sum_at _ _ _ l0 S0 rfl (by have := HM.out; omega) HS0.out _ (HD.out.below HK.out.bel) (HW.out.below HK.out.bel)).mono ?_); rintro e u ⟨rfl, rfl⟩)
    | (go_at_call 14; (with_reducible refine (rsum_at _ _ _ l0 S0 rfl (by have := HM.out; omega) HS0.out _ (HD.out.below HK.out.bel)).mono ?_); rintro e u ⟨rfl, rfl⟩)
    | (go_at_call 10; (with_reducible refine (awake_any _ (HW.out.below HK.out.bel)).mono ?_); rintro e u ⟨rfl, hb⟩; have hb := HK.out.bel.trans (hb.mono HK.out.bel.size); have HB := Lib.hid hb; clear hb))
  go_ret
  exact ⟨rfl, HB.out⟩

set_option maxRecDepth 100000 in
theorem lifted (os : Os) (started : os.Started) (H : Type) (enc : TypeId × Value → H) :
    ReturnsInHanded {} Tryd.checked os 9 .any (fun w args => (Rows.frameJoinedSpec.pre enc Tryd.prog Tryd.f9 [] false w args ∧ laidMetH Tryd.prog laid w) ∧ sizedMet enc Tryd.prog Tryd.f9 (OpenSpec.ofChange Rows.frameJoinedSpec) false w args)
      (Rows.frameJoinedSpec.post enc Tryd.prog Tryd.f9 false true false false) := by
  refine returnsInHanded_of_change_and (C := Tryd.checked) (X := fun w _ => laidMetH Tryd.prog laid w) (fun _ _ _ hh h => h.of_heap hh) own started (by kernel_rfl) Tryd.func9
    (ChangeSpec.witness_shaped (enc := enc) (C := Tryd.checked) (os := os) (X := fun w _ => laidMetH Tryd.prog laid w) false (World.doorLaid Tryd.prog 400 os) #[.slice none 0 0, .int .i64 0, .int .u8 0] 12 rfl (World.shaped_of_RefB (by kernel_rfl) (by kernel_rfl)) (by kernel_rfl) (by kernel_rfl) (by kernel_rfl) (door_met os _)) ?_
  intro W base args ds gs before hval0 hW _ hsz0 hL _
  have hsz : (DataW.weightsEach Tryd.prog (Tryd.f9.params.toList ++ Rows.frameJoinedSpec.plain.varTypes Tryd.prog) (ds ++ gs)).all (· ≤ reachBytes) = true := hsz0
  clear hsz0
  have hval : ∀ (j : Nat) t v, Tryd.f9.params[j]? = some t → args[j]? = some v → Value.okWide Tryd.prog W .any base t v := hval0
  have hW' := hW
  obtain ⟨p, q, hA0, hV, rfl, hfz, hnd⟩ := hW
  have hA : DataW.TrodAll enc Tryd.prog W 0 (fun _ => true) true Tryd.f9.params.toList args.toList ds p := hA0
  rw [Tryd.params9] at hA hval hsz
  obtain ⟨v0, vs0, d0, ds0, q0, r0, hargs, rfl, rfl, h0, t0⟩ := trodAll_cons hA
  obtain ⟨v1, vs1, d1, ds1, q1, r1, rfl, rfl, rfl, h1, t1⟩ := trodAll_cons t0
  obtain ⟨v2, vs2, d2, ds2, q2, r2, rfl, rfl, rfl, h2, t2⟩ := trodAll_cons t1
  obtain ⟨rfl, rfl, rfl⟩ := trodAll_nil t2
  obtain rfl : args = #[v0, v1, v2] := by cases args; simp_all
  obtain ⟨rfl, rfl⟩ := trodVars_none hV
  have k0 := h0
  have lt0 : ∀ x ∈ q0, x.block < W.heap.size := by obtain ⟨m, hm⟩ := k0; exact DataW.trod_lt m _ _ _ hm
  obtain ⟨A0, n0, c0, l0, rfl, hl0, hc0, hm0, hd0⟩ := open_b (hval 0 22 v0 rfl rfl) h0
  have hr0 := reach_b h0 hsz (j := 0) rfl rfl
  have k1 := h1
  have lt1 : ∀ x ∈ q1, x.block < W.heap.size := by obtain ⟨m, hm⟩ := k1; exact DataW.trod_lt m _ _ _ hm
  obtain ⟨a1, rfl, rfl, rfl, w1⟩ := open_int Tryd.underlying3 (hval 1 3 v1 rfl rfl) h1
  have k2 := h2
  have lt2 : ∀ x ∈ q2, x.block < W.heap.size := by obtain ⟨m, hm⟩ := k2; exact DataW.trod_lt m _ _ _ hm
  obtain ⟨a2, rfl, rfl, rfl, w2⟩ := open_int Tryd.underlying5 (hval 2 5 v2 rfl rfl) h2
  have hw := nib_of_laid hL
  clear hA0 hval0
  refine (walk W hw A0 n0 c0 l0 hl0 hc0 hm0 hd0 hr0 a1 w1 a2 w2).mono fun e W' ⟨he, bel⟩ => ?_
  subst he
  exact ⟨_, rfl, _, _, _, [], _, [], hW', trodAll_mk1 (shut_bool Tryd.underlying4 _), (trodAll_cons_mk (Below.trod laidOut (by kernel_rfl) (of_decide_eq_true (by kernel_rfl)) k0 bel lt0) (trodAll_cons_mk (Below.trod laidOut (by kernel_rfl) (of_decide_eq_true (by kernel_rfl)) k1 bel lt1) (trodAll_cons_mk (Below.trod laidOut (by kernel_rfl) (of_decide_eq_true (by kernel_rfl)) k2 bel lt2) trodAll_mk0))), rfl, bel.frame _, fun h => by cases h⟩

theorem over : Rows.frameJoinedRow.holds Tryd.pinned (OpenSpec.ofChange Rows.frameJoinedSpec) :=
  OpenClaim.holds_of_wide 9 Tryd.f9 rfl rfl rfl rfl rfl rfl rfl ⟨rfl, rfl, rfl, rfl, rfl⟩ rfl rfl rfl rfl rfl (by kernel_rfl) Tryd.func9 (by kernel_rfl)
    (of_decide_eq_true (by kernel_rfl)) (by unfold Func.isWrapper; first | (rw [if_pos (by decide +kernel)]; kernel_rfl) | (rw [if_neg (by decide +kernel)]; exact ⟨rfl, rfl⟩))
    (fun os started H enc _ => lifted os started H enc)

theorem card_holds : Claim7.holds Tryd.pinned (.plain (OpenSpec.ofChange Rows.frameJoinedSpec)) Rows.frameJoinedCard :=
  Claim7.holds_tied_plain_at .later [] [.data] true (true, "a244ffbdcca26050101f612f586af2cfca3849d720ebd70499b280c37875cc29") false
    over (fun _ h => by cases h) (by kernel_rfl) (fun _ h => by cases h) frameJoined_row_tie rfl ⟨rfl, rfl⟩ (by kernel_rfl) rfl
    (fun f fn hf hfn => by
      obtain rfl : f = 9 := Option.some.inj ((show Tryd.prog.funcNamed "usufruct/usufructlaw09.FrameJoined" = some 9 by kernel_rfl).symm.trans hf) |>.symm
      obtain rfl : fn = Tryd.f9 := (Option.some.inj (Tryd.func9.symm.trans hfn)).symm
      exact ⟨by kernel_rfl, fun j t ht => by
        rw [Tryd.params9] at ht
        have hm : t ∈ [22, 3, 5] := by simpa using Array.mem_of_getElem? ht
        have hall : ([22, 3, 5].all fun u => !Tryd.prog.wantsStandIn u) = true := by kernel_rfl
        exact (show Tryd.prog.wantsStandIn t = false by simpa using List.all_eq_true.1 hall t hm)⟩)
    (by kernel_rfl)
theorem proved : Rows.FrameJoinedCardSaid := card_holds
#print axioms proved
end Go.Proofs.YtgeicgcpgndlfaaDoor.frameJoined
