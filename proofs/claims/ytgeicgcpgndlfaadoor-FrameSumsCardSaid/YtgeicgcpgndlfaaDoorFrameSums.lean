/- For every slice of bytes usufructlaw09.FrameSums returns true, and it reads as before. Condition: the package-level variable frame.nibbles reads, when the call begins, as the program lays it (the card ties that to the program, by the tie that is given with the seat; that nothing else writes it is the translator's report). -/
import Derived.Test.YtgeicgcpgndlfaaDoorFd
import Derived.WalkKit
import Derived.ProofKit
import Derived.OpenShut
import Derived.ShutString
import Derived.ChangeOld
import Derived.Below
import Derived.Test.YtgeicgcpgndlfaaDoorTie
import Derived.Test.YtgeicgcpgndlfaaDoorCards
import Derived.SevenTiedAt
namespace Go.Proofs.YtgeicgcpgndlfaaDoor.frameSums
open Go.ChangeShapes Go.WideShapes Go.ChangeAt Go.RowKit
set_option linter.unusedVariables false


set_option maxRecDepth 100000 in
set_option maxHeartbeats 4000000 in
theorem walk (w : World) (hw : Nib w) (A0 : Option Addr) (n0 c0 : Nat) (l0 : List UInt8) (hl0 : l0.length = n0) (hc0 : n0 ≤ c0) (hm0 : c0 ≤ maxLen) (hd0 : Bys w A0 l0) (hr0 : n0 ≤ 140737488351232) :
    Calls Tryd.prog 3 #[.slice A0 n0 c0] w fun e w' => e = .returned (.bool true) ∧ Below w.heap.size w w' := by
  have HB := Lib.hid (Below.refl w.heap.size w)
  have HW := Lib.hid hw
  by_cases hL : 32768 < n0
  · have HLL := Lib.hid hL
    have i0 : ¬ (n0 : Int) ≤ 32768 := by omega
    have i1 : (32768 : Int) < (n0 : Int) := by omega
    have i2 : (3000 : Int) < (n0 : Int) := by omega
    go_enter Tryd.func3, Tryd.ntmps3
    go_wp2_with (first
      | (go_at_call 11; (with_reducible refine (put_long _ _ _ HLL.out _).mono ?_); rintro e u ⟨rfl, rfl⟩)
      | (go_at_call 10; (with_reducible refine (awake_any _ (HW.out.below HB.out)).mono ?_); rintro e u ⟨rfl, hb⟩; have hb := HB.out.trans (hb.mono HB.out.size); clear HB; have HB := Lib.hid hb; clear hb))
    go_ret
    exact ⟨rfl, HB.out⟩
  have i0 : (n0 : Int) ≤ 32768 := by omega
  by_cases h1 : 3000 < n0
  · have i1 : (3000 : Int) < (n0 : Int) := by omega
    go_enter Tryd.func3, Tryd.ntmps3
    go_wp2_with (first
      | (go_at_call 10; (with_reducible refine (awake_any _ (HW.out.below HB.out)).mono ?_); rintro e u ⟨rfl, hb⟩; have hb := HB.out.trans (hb.mono HB.out.size); clear HB; have HB := Lib.hid hb; clear hb))
    go_ret
    exact ⟨rfl, HB.out⟩
  have i1 : ¬ (3000 : Int) < (n0 : Int) := by omega
  have i2 : ¬ (32768 : Int) < (n0 : Int) := by omega
  have x1 := Lib.hid (fun u hd hw => put_any A0 n0 c0 l0 hl0 (by omega) u hd hw)
  have x2 := Lib.hid (fun u hd => rput_any A0 n0 c0 l0 hl0 (by omega) u hd)
  have x3 := Lib.hid (fun u hd hw => sum_any A0 n0 c0 l0 hl0 (by omega) u hd hw)
  have x4 := Lib.hid (fun u hd => rsum_any A0 n0 c0 l0 hl0 (by omega) u hd)
  generalize frm l0 = F at *
  generalize crc l0 = X at *
  have HD := Lib.hid hd0
  have HQ := Lib.hid (fun (l : List UInt8) => show (((⟨l.toArray⟩ : ByteArray).toList == (⟨l.toArray⟩ : ByteArray).toList) = true) from by simp)
  have hxx : ((X : Int) == (X : Int)) = true := by simp
  clear hd0 hw hL h1
  go_enter Tryd.func3, Tryd.ntmps3
  go_wp2_with (first
    | (go_at_call 11; (with_reducible refine (x1.out _ (HD.out.below HB.out) (HW.out.below HB.out)).mono ?_); rintro e u ⟨A2, c2, ⟨rfl, _⟩, hk⟩; have hb := HB.out.trans (hk.bel.mono HB.out.size); have hy := hk.own.bys; clear HB hk; have HB := Lib.hid hb; have HY := Lib.hid hy; clear hb hy))
  refine Draws.start (S := KB w [(A2, F), (A0, l0)]) (n := 21) 21 rfl (by kernel_rfl) ?_
  have HS := Lib.hid (show KB w [(A2, F), (A0, l0)] (World.drew _) from KB.drew (KB.add (KB.add ⟨HB.out, fun _ h => by cases h⟩ (HD.out.below HB.out)) HY.out))
  refine Draws.take 0 (v := ?v1) HS.out rfl (by kernel_rfl) (fun _ _ _ h => h) (Or.inl ⟨rfl, ?h1⟩) ?r1
  case h1 => intro w' hw'; go_simp; (try with_reducible rfl)
  (try simp only [Act.put, List.setIfInBounds_toArray, List.set_cons_zero, List.set_cons_succ])
  refine Draws.take 1 (v := ?v2) HS.out rfl (by kernel_rfl) (fun _ _ _ h => h) (Or.inl ⟨rfl, ?h2⟩) ?r2
  case h2 => intro w' hw'; go_simp; (try with_reducible rfl)
  (try simp only [Act.put, List.setIfInBounds_toArray, List.set_cons_zero, List.set_cons_succ])
  refine Draws.take 2 (v := ?v3) HS.out rfl (by kernel_rfl) (fun _ _ _ h => h) (Or.inl ⟨rfl, ?h3⟩) ?r3
  case h3 => intro w' hw'; go_simp; (try with_reducible rfl)
  (try simp only [Act.put, List.setIfInBounds_toArray, List.set_cons_zero, List.set_cons_succ])
  refine Draws.take 3 (v := ?v4) HS.out rfl (by kernel_rfl) (fun _ _ _ h => h) (Or.inl ⟨rfl, ?h4⟩) ?r4
  case h4 => intro w' hw'; go_simp; (try with_reducible rfl)
  (try simp only [Act.put, List.setIfInBounds_toArray, List.set_cons_zero, List.set_cons_succ])
  refine Draws.take 4 HS.out rfl (by kernel_rfl) (fun _ _ _ h => h) (yield_str (fun _ h => h.get 0 rfl) rfl _ rfl rfl rfl) ?_
  (try simp only [Act.put, List.setIfInBounds_toArray, List.set_cons_zero, List.set_cons_succ])
  refine Draws.take 5 (v := ?v5) HS.out rfl (by kernel_rfl) (fun _ _ _ h => h) (Or.inl ⟨rfl, ?h5⟩) ?r5
  case h5 => intro w' hw'; go_simp; (try with_reducible rfl)
  (try simp only [Act.put, List.setIfInBounds_toArray, List.set_cons_zero, List.set_cons_succ])
  refine Draws.does 6 rfl (by kernel_rfl) rfl (fun K hK => ?_)
  go_simp
  go_at_call 12
  refine (x2.out _ (HS.out.get 1 rfl)).mono ?_
  rintro e u ⟨A3, c3, ⟨rfl, _⟩, hk⟩
  (try dsimp only)
  refine hK.out _ _ (fun _ => HS.out.call hk.bel) ?_
  clear hK K
  refine Draws.more (S' := KB w ((A3, F) :: [(A2, F), (A0, l0)])) (fun _ h => h.tail) _ _ _ _ ?_
  have hs : KB w ((A3, F) :: [(A2, F), (A0, l0)]) u := (HS.out.call hk.bel).add hk.own.bys
  clear HS hk
  have HS := Lib.hid hs; clear hs
  (try simp only [Act.put, List.setIfInBounds_toArray, List.set_cons_zero, List.set_cons_succ])
  refine Draws.take 7 HS.out rfl (by kernel_rfl) (fun _ _ _ h => h) (yield_str (fun _ h => h.get 0 rfl) rfl _ rfl rfl rfl) ?_
  (try simp only [Act.put, List.setIfInBounds_toArray, List.set_cons_zero, List.set_cons_succ])
  refine Draws.take 8 HS.out rfl (by kernel_rfl) (fun _ _ _ h => h) (yield_eqs (HQ.out F) _ _ _ rfl rfl rfl rfl) ?_
  (try simp only [Act.put, List.setIfInBounds_toArray, List.set_cons_zero, List.set_cons_succ])
  refine Draws.take 9 (v := ?v6) HS.out rfl (by kernel_rfl) (fun _ _ _ h => h) (Or.inl ⟨rfl, ?h6⟩) ?r6
  case h6 => intro w' hw'; go_simp; (try with_reducible rfl)
  (try simp only [Act.put, List.setIfInBounds_toArray, List.set_cons_zero, List.set_cons_succ])
  refine Draws.take 10 (v := ?v7) HS.out rfl (by kernel_rfl) (fun _ _ _ h => h) (Or.inl ⟨rfl, ?h7⟩) ?r7
  case h7 => intro w' hw'; go_simp; (try with_reducible rfl)
  (try simp only [Act.put, List.setIfInBounds_toArray, List.set_cons_zero, List.set_cons_succ])
  refine Draws.take 11 (v := ?v8) HS.out rfl (by kernel_rfl) (fun _ _ _ h => h) (Or.inl ⟨rfl, ?h8⟩) ?r8
  case h8 => intro w' hw'; go_simp; (try with_reducible rfl)
  (try simp only [Act.put, List.setIfInBounds_toArray, List.set_cons_zero, List.set_cons_succ])
  refine Draws.take 13 (v := ?v9) HS.out rfl (by kernel_rfl) (fun _ _ _ h => h) (Or.inl ⟨rfl, ?h9⟩) ?r9
  case h9 => intro w' hw'; go_simp; (try with_reducible rfl)
  (try simp only [Act.put, List.setIfInBounds_toArray, List.set_cons_zero, List.set_cons_succ])
  refine Draws.does 12 rfl (by kernel_rfl) rfl (fun K hK => ?_)
  go_simp
  go_at_call 13
  refine (x3.out _ (HS.out.get 2 rfl) (HW.out.below HS.out.bel)).mono ?_
  rintro e u ⟨rfl, rfl⟩
  (try dsimp only)
  refine hK.out _ _ (fun _ => HS.out) ?_
  clear hK K
  (try simp only [Act.put, List.setIfInBounds_toArray, List.set_cons_zero, List.set_cons_succ])
  refine Draws.does 14 rfl (by kernel_rfl) rfl (fun K hK => ?_)
  go_simp
  go_at_call 14
  refine (x4.out _ (HS.out.get 2 rfl)).mono ?_
  rintro e u ⟨rfl, rfl⟩
  (try dsimp only)
  refine hK.out _ _ (fun _ => HS.out) ?_
  clear hK K
  (try simp only [Act.put, List.setIfInBounds_toArray, List.set_cons_zero, List.set_cons_succ])
  refine Draws.take 15 (v := ?v10) HS.out rfl (by kernel_rfl) (fun _ _ _ h => h) (Or.inl ⟨rfl, ?h10⟩) ?r10
  case h10 => intro w' hw'; go_simp; (try with_reducible rfl)
  (try simp only [Act.put, List.setIfInBounds_toArray, List.set_cons_zero, List.set_cons_succ])
  refine Draws.take 16 (v := ?v11) HS.out rfl (by kernel_rfl) (fun _ _ _ h => h) (Or.inl ⟨rfl, ?h11⟩) ?r11
  case h11 => intro w' hw'; go_simp; (try with_reducible rfl)
  (try simp only [Act.put, List.setIfInBounds_toArray, List.set_cons_zero, List.set_cons_succ])
  refine Draws.take 17 (v := ?v12) HS.out rfl (by kernel_rfl) (fun _ _ _ h => h) (Or.inl ⟨rfl, ?h12⟩) ?r12
  case h12 => intro w' hw'; go_simp; (try with_reducible rfl)
  (try simp only [Act.put, List.setIfInBounds_toArray, List.set_cons_zero, List.set_cons_succ])
  refine Draws.does 18 rfl (by kernel_rfl) rfl (fun K hK => ?_)
  go_simp
  go_at_call 10
  refine (awake_any _ (HW.out.below HS.out.bel)).mono ?_
  rintro e u ⟨rfl, hb⟩
  (try dsimp only)
  refine hK.out _ _ (fun _ => HS.out.call hb) ?_
  clear hK K
  have hs := HS.out.call hb
  clear HS hb
  have HS := Lib.hid hs; clear hs
  (try simp only [Act.put, List.setIfInBounds_toArray, List.set_cons_zero, List.set_cons_succ])
  refine Draws.take 19 (v := ?v13) HS.out rfl (by kernel_rfl) (fun _ _ _ h => h) (Or.inl ⟨rfl, ?h13⟩) ?r13
  case h13 => intro w' hw'; go_simp; (try with_reducible rfl)
  (try simp only [Act.put, List.setIfInBounds_toArray, List.set_cons_zero, List.set_cons_succ])
  refine Draws.take 20 (v := ?v14) HS.out rfl (by kernel_rfl) (fun _ _ _ h => h) (Or.inl ⟨rfl, ?h14⟩) ?r14
  case h14 => intro w' hw'; go_simp; (try with_reducible rfl)
  (try simp only [Act.put, List.setIfInBounds_toArray, List.set_cons_zero, List.set_cons_succ])
  refine Draws.done (by kernel_rfl) ?_
  go_wp2_with (first
    | fail)
  go_ret
  exact ⟨rfl, HS.out.bel⟩

set_option maxRecDepth 100000 in
theorem lifted (os : Os) (started : os.Started) (H : Type) (enc : TypeId × Value → H) :
    ReturnsInHanded {} Tryd.checked os 3 .any (fun w args => (Rows.frameSumsSpec.pre enc Tryd.prog Tryd.f3 [] false w args ∧ laidMetH Tryd.prog laid w) ∧ sizedMet enc Tryd.prog Tryd.f3 (OpenSpec.ofChange Rows.frameSumsSpec) false w args)
      (Rows.frameSumsSpec.post enc Tryd.prog Tryd.f3 false true false false) := by
  refine returnsInHanded_of_change_and (C := Tryd.checked) (X := fun w _ => laidMetH Tryd.prog laid w) (fun _ _ _ hh h => h.of_heap hh) own started (by kernel_rfl) Tryd.func3
    (ChangeSpec.witness_shaped (enc := enc) (C := Tryd.checked) (os := os) (X := fun w _ => laidMetH Tryd.prog laid w) false (World.doorLaid Tryd.prog 400 os) #[.slice none 0 0] 12 rfl (World.shaped_of_RefB (by kernel_rfl) (by kernel_rfl)) (by kernel_rfl) (by kernel_rfl) (by kernel_rfl) (door_met os _)) ?_
  intro W base args ds gs before hval0 hW _ hsz0 hL _
  have hsz : (DataW.weightsEach Tryd.prog (Tryd.f3.params.toList ++ Rows.frameSumsSpec.plain.varTypes Tryd.prog) (ds ++ gs)).all (· ≤ reachBytes) = true := hsz0
  clear hsz0
  have hval : ∀ (j : Nat) t v, Tryd.f3.params[j]? = some t → args[j]? = some v → Value.okWide Tryd.prog W .any base t v := hval0
  have hW' := hW
  obtain ⟨p, q, hA0, hV, rfl, hfz, hnd⟩ := hW
  have hA : DataW.TrodAll enc Tryd.prog W 0 (fun _ => true) true Tryd.f3.params.toList args.toList ds p := hA0
  rw [Tryd.params3] at hA hval hsz
  obtain ⟨v0, vs0, d0, ds0, q0, r0, hargs, rfl, rfl, h0, t0⟩ := trodAll_cons hA
  obtain ⟨rfl, rfl, rfl⟩ := trodAll_nil t0
  obtain rfl : args = #[v0] := by cases args; simp_all
  obtain ⟨rfl, rfl⟩ := trodVars_none hV
  have k0 := h0
  have lt0 : ∀ x ∈ q0, x.block < W.heap.size := by obtain ⟨m, hm⟩ := k0; exact DataW.trod_lt m _ _ _ hm
  obtain ⟨A0, n0, c0, l0, rfl, hl0, hc0, hm0, hd0⟩ := open_b (hval 0 22 v0 rfl rfl) h0
  have hr0 := reach_b h0 hsz (j := 0) rfl rfl
  have hw := nib_of_laid hL
  clear hA0 hval0
  refine (walk W hw A0 n0 c0 l0 hl0 hc0 hm0 hd0 hr0).mono fun e W' ⟨he, bel⟩ => ?_
  subst he
  exact ⟨_, rfl, _, _, _, [], _, [], hW', trodAll_mk1 (shut_bool Tryd.underlying4 _), (trodAll_cons_mk (Below.trod laidOut (by kernel_rfl) (of_decide_eq_true (by kernel_rfl)) k0 bel lt0) trodAll_mk0), rfl, bel.frame _, fun h => by cases h⟩

theorem over : Rows.frameSumsRow.holds Tryd.pinned (OpenSpec.ofChange Rows.frameSumsSpec) :=
  OpenClaim.holds_of_wide 3 Tryd.f3 rfl rfl rfl rfl rfl rfl rfl ⟨rfl, rfl, rfl, rfl, rfl⟩ rfl rfl rfl rfl rfl (by kernel_rfl) Tryd.func3 (by kernel_rfl)
    (of_decide_eq_true (by kernel_rfl)) (by unfold Func.isWrapper; first | (rw [if_pos (by decide +kernel)]; kernel_rfl) | (rw [if_neg (by decide +kernel)]; exact ⟨rfl, rfl⟩))
    (fun os started H enc _ => lifted os started H enc)

theorem card_holds : Claim7.holds Tryd.pinned (.plain (OpenSpec.ofChange Rows.frameSumsSpec)) Rows.frameSumsCard :=
  Claim7.holds_tied_plain_at .later [] [.data] true (true, "a244ffbdcca26050101f612f586af2cfca3849d720ebd70499b280c37875cc29") false
    over (fun _ h => by cases h) (by kernel_rfl) (fun _ h => by cases h) frameSums_row_tie rfl ⟨rfl, rfl⟩ (by kernel_rfl) rfl
    (fun f fn hf hfn => by
      obtain rfl : f = 3 := Option.some.inj ((show Tryd.prog.funcNamed "usufruct/usufructlaw09.FrameSums" = some 3 by kernel_rfl).symm.trans hf) |>.symm
      obtain rfl : fn = Tryd.f3 := (Option.some.inj (Tryd.func3.symm.trans hfn)).symm
      exact ⟨by kernel_rfl, fun j t ht => by
        rw [Tryd.params3] at ht
        have hm : t ∈ [22] := by simpa using Array.mem_of_getElem? ht
        have hall : ([22].all fun u => !Tryd.prog.wantsStandIn u) = true := by kernel_rfl
        exact (show Tryd.prog.wantsStandIn t = false by simpa using List.all_eq_true.1 hall t hm)⟩)
    (by kernel_rfl)
theorem proved : Rows.FrameSumsCardSaid := card_holds
#print axioms proved
end Go.Proofs.YtgeicgcpgndlfaaDoor.frameSums
