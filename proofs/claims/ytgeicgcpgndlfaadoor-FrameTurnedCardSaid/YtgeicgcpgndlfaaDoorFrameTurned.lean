/- For every slice of bytes, int and byte usufructlaw09.FrameTurned returns true, and each argument reads as before. Condition: the package-level variable frame.nibbles reads, when the call begins, as the program lays it (the card ties that to the program, by the tie that is given with the seat; that nothing else writes it is the translator's report). -/
import Derived.Test.YtgeicgcpgndlfaaDoorFz
import Derived.WalkKit
import Derived.ProofKit
import Derived.OpenShut
import Derived.ShutString
import Derived.ChangeOld
import Derived.Below
import Derived.Test.YtgeicgcpgndlfaaDoorTie
import Derived.Test.YtgeicgcpgndlfaaDoorCards
import Derived.SevenTiedAt
namespace Go.Proofs.YtgeicgcpgndlfaaDoor.frameTurned
open Go.ChangeShapes Go.WideShapes Go.ChangeAt Go.RowKit
set_option linter.unusedVariables false


set_option maxRecDepth 100000 in
set_option maxHeartbeats 4000000 in
theorem walk (w : World) (hw : Nib w) (A0 : Option Addr) (n0 c0 : Nat) (l0 : List UInt8) (hl0 : l0.length = n0) (hc0 : n0 ≤ c0) (hm0 : c0 ≤ maxLen) (hd0 : Bys w A0 l0) (hr0 : n0 ≤ 140737488351232) (a1 : Int) (w1 : (Lit.int .i64 a1).wf = true) (a2 : Int) (w2 : (Lit.int .u8 a2).wf = true) :
    Calls Tryd.prog 6 #[.slice A0 n0 c0, .int .i64 a1, .int .u8 a2] w fun e w' => e = .returned (.bool true) ∧ Below w.heap.size w w' := by
  have HB := Lib.hid (Below.refl w.heap.size w)
  have HW := Lib.hid hw
  subst hl0
  by_cases hL : 32768 < l0.length
  · have HLL := Lib.hid hL
    have i1 : (3000 : Int) < (l0.length : Int) := by omega
    go_enter Tryd.func6, Tryd.ntmps6
    go_wp2_with (first
      | (go_at_call 11; (with_reducible refine (put_long _ _ _ HLL.out _).mono ?_); rintro e u ⟨rfl, rfl⟩)
      | (go_at_call 10; (with_reducible refine (awake_any _ (HW.out.below HB.out)).mono ?_); rintro e u ⟨rfl, hb⟩; have hb := HB.out.trans (hb.mono HB.out.size); clear HB; have HB := Lib.hid hb; clear hb))
    go_ret
    exact ⟨rfl, HB.out⟩
  have x1 := Lib.hid (fun u hd hw => put_any A0 l0.length c0 l0 rfl (by omega) u hd hw)
  have hFL := frm_length l0
  have htn := fun (k : Nat) (d : UInt8) => turned (p := l0) (by omega) (k := k) (d := d)
  generalize frm l0 = F at *
  have HFP := Lib.hid (show 0 < F.length by omega)
  have HD := Lib.hid hd0
  clear hd0 hw
  by_cases h1 : 3000 < l0.length
  · have i1 : (3000 : Int) < (l0.length : Int) := by omega
    clear hFL htn
    go_enter Tryd.func6, Tryd.ntmps6
    go_wp2_with (first
      | (go_at_call 11; (with_reducible refine (x1.out _ (HD.out.below HB.out) (HW.out.below HB.out)).mono ?_); intro e u ht; obtain ⟨g, c2, rfl, hc2, hk⟩ := ht.row HFP.out; have hb := HB.out.trans (hk.bel.mono HB.out.size); have hk := hk.lift HB.out; clear HB ht; have HB := Lib.hid hb; have HK := Lib.hid hk; have HC2 := Lib.hid hc2; clear hb hk hc2)
      | (go_at_call 10; (with_reducible refine (awake_any _ (HW.out.below HB.out)).mono ?_); rintro e u ⟨rfl, hb⟩; have hb := HB.out.trans (hb.mono HB.out.size); clear HB; have HB := Lib.hid hb; clear hb))
    go_ret
    exact ⟨rfl, HB.out⟩
  have i1 : ¬ (3000 : Int) < (l0.length : Int) := by omega
  by_cases h2 : a1 < 0
  · clear hFL htn
    go_enter Tryd.func6, Tryd.ntmps6
    go_wp2_with (first
      | (go_at_call 11; (with_reducible refine (x1.out _ (HD.out.below HB.out) (HW.out.below HB.out)).mono ?_); intro e u ht; obtain ⟨g, c2, rfl, hc2, hk⟩ := ht.row HFP.out; have hb := HB.out.trans (hk.bel.mono HB.out.size); have hk := hk.lift HB.out; clear HB ht; have HB := Lib.hid hb; have HK := Lib.hid hk; have HC2 := Lib.hid hc2; clear hb hk hc2)
      | (go_at_call 10; (with_reducible refine (awake_any _ (HW.out.below HB.out)).mono ?_); rintro e u ⟨rfl, hb⟩; have hb := HB.out.trans (hb.mono HB.out.size); clear HB; have HB := Lib.hid hb; clear hb))
    go_ret
    exact ⟨rfl, HB.out⟩
  by_cases h3 : (F.length : Int) ≤ a1
  · clear hFL htn
    go_enter Tryd.func6, Tryd.ntmps6
    go_wp2_with (first
      | (go_at_call 11; (with_reducible refine (x1.out _ (HD.out.below HB.out) (HW.out.below HB.out)).mono ?_); intro e u ht; obtain ⟨g, c2, rfl, hc2, hk⟩ := ht.row HFP.out; have hb := HB.out.trans (hk.bel.mono HB.out.size); have hk := hk.lift HB.out; clear HB ht; have HB := Lib.hid hb; have HK := Lib.hid hk; have HC2 := Lib.hid hc2; clear hb hk hc2)
      | (go_at_call 10; (with_reducible refine (awake_any _ (HW.out.below HB.out)).mono ?_); rintro e u ⟨rfl, hb⟩; have hb := HB.out.trans (hb.mono HB.out.size); clear HB; have HB := Lib.hid hb; clear hb))
    go_ret
    exact ⟨rfl, HB.out⟩
  obtain ⟨d, rfl⟩ := u8_of w2
  by_cases h4 : d = 0
  · subst h4
    have i4 : (((0 : UInt8).toNat : Int) == 0) = true := rfl
    have i5 : ((0 : UInt8).toNat : Int) = 0 := rfl
    rw [i5]
    clear hFL htn
    go_enter Tryd.func6, Tryd.ntmps6
    go_wp2_with (first
      | (go_at_call 11; (with_reducible refine (x1.out _ (HD.out.below HB.out) (HW.out.below HB.out)).mono ?_); intro e u ht; obtain ⟨g, c2, rfl, hc2, hk⟩ := ht.row HFP.out; have hb := HB.out.trans (hk.bel.mono HB.out.size); have hk := hk.lift HB.out; clear HB ht; have HB := Lib.hid hb; have HK := Lib.hid hk; have HC2 := Lib.hid hc2; clear hb hk hc2)
      | (go_at_call 10; (with_reducible refine (awake_any _ (HW.out.below HB.out)).mono ?_); rintro e u ⟨rfl, hb⟩; have hb := HB.out.trans (hb.mono HB.out.size); clear HB; have HB := Lib.hid hb; clear hb))
    go_ret
    exact ⟨rfl, HB.out⟩
  have hd' : d.toNat ≠ 0 := fun e => h4 (UInt8.toNat_inj.1 e)
  have i4 : ((d.toNat : Int) == 0) = false := beq_eq_false_iff_ne.2 (by omega)
  obtain ⟨k, rfl⟩ := Int.eq_ofNat_of_zero_le (show 0 ≤ a1 by omega)
  have i3 : (k : Int) < (F.length : Int) := by omega
  have i6 : (0 : Int) ≤ (k : Int) := by omega
  have HKL := Lib.hid (show k < F.length by omega)
  have HFM := Lib.hid (show F.length ≤ 1000000 by omega)
  have htk := htn k (F.getD k 0 ^^^ d) HKL.out (xor8_ne h4)
  clear htn
  generalize hz : F.getD k 0 = z at *
  have HZ := Lib.hid hz
  have HSL := Lib.hid (show (F.set k (z ^^^ d)).length = F.length by simp)
  clear hz h1 h2 h3 h4 hd' hL hFL
  by_cases hE : tkE (F.set k (z ^^^ d)) = 0
  · obtain ⟨k4, hS⟩ := htk hE
    have HE := Lib.hid hE
    generalize hPP : tkP (F.set k (z ^^^ d)) = P at *
    generalize hSS : tkS (F.set k (z ^^^ d)) = S at *
    have HPP := Lib.hid hPP; have HSS := Lib.hid hSS
    have j1 : ((S : Int) != (F.length : Int)) = true := by simp; omega
    have j2 : (k : Int) < 4 := by omega
    clear hE hPP hSS hS k4 htk
    go_enter Tryd.func6, Tryd.ntmps6
    go_wp2_with (first
      | (go_at_call 11; (with_reducible refine (x1.out _ (HD.out.below HB.out) (HW.out.below HB.out)).mono ?_); intro e u ht; obtain ⟨g, c2, rfl, hc2, hk⟩ := ht.row HFP.out; have hb := HB.out.trans (hk.bel.mono HB.out.size); have hk := hk.lift HB.out; clear HB ht; have HB := Lib.hid hb; have HK := Lib.hid hk; have HC2 := Lib.hid hc2; have hcell := hk.cell (k := k) HKL.out; rw [HZ.out] at hcell; clear hb hk hc2 HB)
      | (refine store_byte HK.out rfl HKL.out (z ^^^ d) (xor8 z d) rfl rfl _ _ rfl rfl rfl ?_; intro u hk; clear HK hcell; have HK := Lib.hid hk; clear hk)
      | (go_at_call 15; (with_reducible refine (take_any _ _ _ (F.set k (z ^^^ d)) HSL.out HC2.out HFM.out _ HK.out.own.bys (HW.out.below HK.out.bel)).mono ?_); intro e u ht; obtain ⟨A4, c4, ⟨rfl, _⟩, hk⟩ := ht.yes HE.out HPP.out HSS.out; have hb := HK.out.bel.trans (hk.bel.mono HK.out.bel.size); clear HK hk ht; have HB := Lib.hid hb; clear hb)
      | (go_at_call 10; (with_reducible refine (awake_any _ (HW.out.below HB.out)).mono ?_); rintro e u ⟨rfl, hb⟩; have hb := HB.out.trans (hb.mono HB.out.size); clear HB; have HB := Lib.hid hb; clear hb))
    go_ret
    exact ⟨rfl, HB.out⟩
  · generalize hZ : tkE (F.set k (z ^^^ d)) = y at *
    have HE := Lib.hid hZ; have HE0 := Lib.hid hE
    have j1 : (y != 0) = true := by simp [hE]
    have j2 : (y == 0) = false := by simp [hE]
    clear hZ hE htk
    go_enter Tryd.func6, Tryd.ntmps6
    go_wp2_with (first
      | (go_at_call 11; (with_reducible refine (x1.out _ (HD.out.below HB.out) (HW.out.below HB.out)).mono ?_); intro e u ht; obtain ⟨g, c2, rfl, hc2, hk⟩ := ht.row HFP.out; have hb := HB.out.trans (hk.bel.mono HB.out.size); have hk := hk.lift HB.out; clear HB ht; have HB := Lib.hid hb; have HK := Lib.hid hk; have HC2 := Lib.hid hc2; have hcell := hk.cell (k := k) HKL.out; rw [HZ.out] at hcell; clear hb hk hc2 HB)
      | (refine store_byte HK.out rfl HKL.out (z ^^^ d) (xor8 z d) rfl rfl _ _ rfl rfl rfl ?_; intro u hk; clear HK hcell; have HK := Lib.hid hk; clear hk)
      | (go_at_call 15; (with_reducible refine (take_any _ _ _ (F.set k (z ^^^ d)) HSL.out HC2.out HFM.out _ HK.out.own.bys (HW.out.below HK.out.bel)).mono ?_); intro e u ht; obtain ⟨A4, c4, rfl, hb⟩ := ht.no HE.out HE0.out; have hb := HK.out.bel.trans (hb.mono HK.out.bel.size); clear HK ht; have HB := Lib.hid hb; clear hb)
      | (go_at_call 10; (with_reducible refine (awake_any _ (HW.out.below HB.out)).mono ?_); rintro e u ⟨rfl, hb⟩; have hb := HB.out.trans (hb.mono HB.out.size); clear HB; have HB := Lib.hid hb; clear hb))
    go_ret
    exact ⟨rfl, HB.out⟩

set_option maxRecDepth 100000 in
theorem lifted (os : Os) (started : os.Started) (H : Type) (enc : TypeId × Value → H) :
    ReturnsInHanded {} Tryd.checked os 6 .any (fun w args => (Rows.frameTurnedSpec.pre enc Tryd.prog Tryd.f6 [] false w args ∧ laidMetH Tryd.prog laid w) ∧ sizedMet enc Tryd.prog Tryd.f6 (OpenSpec.ofChange Rows.frameTurnedSpec) false w args)
      (Rows.frameTurnedSpec.post enc Tryd.prog Tryd.f6 false true false false) := by
  refine returnsInHanded_of_change_and (C := Tryd.checked) (X := fun w _ => laidMetH Tryd.prog laid w) (fun _ _ _ hh h => h.of_heap hh) own started (by kernel_rfl) Tryd.func6
    (ChangeSpec.witness_shaped (enc := enc) (C := Tryd.checked) (os := os) (X := fun w _ => laidMetH Tryd.prog laid w) false (World.doorLaid Tryd.prog 400 os) #[.slice none 0 0, .int .i64 0, .int .u8 0] 12 rfl (World.shaped_of_RefB (by kernel_rfl) (by kernel_rfl)) (by kernel_rfl) (by kernel_rfl) (by kernel_rfl) (door_met os _)) ?_
  intro W base args ds gs before hval0 hW _ hsz0 hL _
  have hsz : (DataW.weightsEach Tryd.prog (Tryd.f6.params.toList ++ Rows.frameTurnedSpec.plain.varTypes Tryd.prog) (ds ++ gs)).all (· ≤ reachBytes) = true := hsz0
  clear hsz0
  have hval : ∀ (j : Nat) t v, Tryd.f6.params[j]? = some t → args[j]? = some v → Value.okWide Tryd.prog W .any base t v := hval0
  have hW' := hW
  obtain ⟨p, q, hA0, hV, rfl, hfz, hnd⟩ := hW
  have hA : DataW.TrodAll enc Tryd.prog W 0 (fun _ => true) true Tryd.f6.params.toList args.toList ds p := hA0
  rw [Tryd.params6] at hA hval hsz
  obtain ⟨v0, vs0, d0, ds0, q0, r0, hargs, rfl, rfl, h0, t0⟩ := trodAll_cons hA
  obtain ⟨v1, vs1, d1, ds1, q1, r1, rfl, rfl, rfl, h1, t1⟩ := trodAll_cons t0
  obtain ⟨v2, vs2, d2, ds2, q2, r2, rfl, rfl, rfl, h2, t2⟩ := trodAll_cons t1
  obtain ⟨rfl, rfl, rfl⟩ := trodAll_nil t2
  obtain rfl : args = #[v0, v1, v2] := by cases args; simp_all
  obtain ⟨rfl, rfl⟩ := trodVars_none hV
  have k0 := h0
  have lt0 : ∀ x ∈ q0, x.block < W.heap.size := by obtain ⟨m, hm⟩ := k0; exact DataW.trod_lt m _ _ _ hm
  obtain ⟨A0, n0, c0, l0, rfl, hl0, hc0, hm0, hd0⟩ := open_b (hval 0 22 v0 rfl rfl) h0
  have hr0 := reach_b h0 hsz (j := 0) rfl rfl
  have k1 := h1
  have lt1 : ∀ x ∈ q1, x.block < W.heap.size := by obtain ⟨m, hm⟩ := k1; exact DataW.trod_lt m _ _ _ hm
  obtain ⟨a1, rfl, rfl, rfl, w1⟩ := open_int Tryd.underlying3 (hval 1 3 v1 rfl rfl) h1
  have k2 := h2
  have lt2 : ∀ x ∈ q2, x.block < W.heap.size := by obtain ⟨m, hm⟩ := k2; exact DataW.trod_lt m _ _ _ hm
  obtain ⟨a2, rfl, rfl, rfl, w2⟩ := open_int Tryd.underlying5 (hval 2 5 v2 rfl rfl) h2
  have hw := nib_of_laid hL
  clear hA0 hval0
  refine (walk W hw A0 n0 c0 l0 hl0 hc0 hm0 hd0 hr0 a1 w1 a2 w2).mono fun e W' ⟨he, bel⟩ => ?_
  subst he
  exact ⟨_, rfl, _, _, _, [], _, [], hW', trodAll_mk1 (shut_bool Tryd.underlying4 _), (trodAll_cons_mk (Below.trod laidOut (by kernel_rfl) (of_decide_eq_true (by kernel_rfl)) k0 bel lt0) (trodAll_cons_mk (Below.trod laidOut (by kernel_rfl) (of_decide_eq_true (by kernel_rfl)) k1 bel lt1) (trodAll_cons_mk (Below.trod laidOut (by kernel_rfl) (of_decide_eq_true (by kernel_rfl)) k2 bel lt2) trodAll_mk0))), rfl, bel.frame _, fun h => by cases h⟩

theorem over : Rows.frameTurnedRow.holds Tryd.pinned (OpenSpec.ofChange Rows.frameTurnedSpec) :=
  OpenClaim.holds_of_wide 6 Tryd.f6 rfl rfl rfl rfl rfl rfl rfl ⟨rfl, rfl, rfl, rfl, rfl⟩ rfl rfl rfl rfl rfl (by kernel_rfl) Tryd.func6 (by kernel_rfl)
    (of_decide_eq_true (by kernel_rfl)) (by unfold Func.isWrapper; first | (rw [if_pos (by decide +kernel)]; kernel_rfl) | (rw [if_neg (by decide +kernel)]; exact ⟨rfl, rfl⟩))
    (fun os started H enc _ => lifted os started H enc)

theorem card_holds : Claim7.holds Tryd.pinned (.plain (OpenSpec.ofChange Rows.frameTurnedSpec)) Rows.frameTurnedCard :=
  Claim7.holds_tied_plain_at .later [] [.data] true (true, "a244ffbdcca26050101f612f586af2cfca3849d720ebd70499b280c37875cc29") false
    over (fun _ h => by cases h) (by kernel_rfl) (fun _ h => by cases h) frameTurned_row_tie rfl ⟨rfl, rfl⟩ (by kernel_rfl) rfl
    (fun f fn hf hfn => by
      obtain rfl : f = 6 := Option.some.inj ((show Tryd.prog.funcNamed "usufruct/usufructlaw09.FrameTurned" = some 6 by kernel_rfl).symm.trans hf) |>.symm
      obtain rfl : fn = Tryd.f6 := (Option.some.inj (Tryd.func6.symm.trans hfn)).symm
      exact ⟨by kernel_rfl, fun j t ht => by
        rw [Tryd.params6] at ht
        have hm : t ∈ [22, 3, 5] := by simpa using Array.mem_of_getElem? ht
        have hall : ([22, 3, 5].all fun u => !Tryd.prog.wantsStandIn u) = true := by kernel_rfl
        exact (show Tryd.prog.wantsStandIn t = false by simpa using List.all_eq_true.1 hall t hm)⟩)
    (by kernel_rfl)
theorem proved : Rows.FrameTurnedCardSaid := card_holds
#print axioms proved
end Go.Proofs.YtgeicgcpgndlfaaDoor.frameTurned
