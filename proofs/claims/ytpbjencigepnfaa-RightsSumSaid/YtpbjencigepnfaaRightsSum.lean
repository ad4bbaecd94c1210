/- For every row of steps usufructlaw03.RightsSum returns true, and the argument reads as before. No condition. -/
import Derived.Test.YtpbjencigepnfaaRtSumB
import Derived.WalkKit
import Derived.ProofKit
import Derived.OpenShut
import Derived.ChangeOld
import Derived.Below
namespace Go.Proofs.Ytpbjencigepnfaa.rightsSum
open Go.ChangeShapes Go.WideShapes Go.ChangeAt Go.RowKit
set_option linter.unusedVariables false

theorem own : ownKnob Try.prog.godebug = none := by kernel_rfl
theorem laidOut : laidOutB Try.prog = true := by kernel_rfl

theorem yield_eq {ops : Array Oper} {S : World → Prop} {o : Oper} {a : Act} {xs ys : List Int} (h : xs = ys) (hy : YieldsIf Try.prog ops S o (.agg (vals xs).toArray) a) : YieldsIf Try.prog ops S o (.agg (vals ys).toArray) a := h ▸ hy

set_option maxRecDepth 100000 in
set_option maxHeartbeats 4000000 in
theorem walk (w : World) (A0 : Option Addr) (n0 c0 : Nat) (x0 : List Int) (hd0 : Steps w A0 n0 x0) :
    Calls Try.prog 7 #[.slice A0 n0 c0] w fun e w' => e = .returned (.bool true) ∧ Below w.heap.size w w' := by
  by_cases h60 : 60 < n0
  · have hn : (60 : Int) < (n0 : Int) := by omega
    have HK := Lib.hid (KeepR.start w)
    go_enter Try.func7, Try.ntmps7
    go_wp2_with (first
      | (go_at_call 17; (with_reducible refine (awake3 _).mono ?_); rintro e u ⟨rfl, hb⟩; have hk := HK.out.call hb; clear hb; clear HK; have HK := Lib.hid hk; clear hk))
    go_ret
    exact ⟨rfl, HK.out.bel⟩
  · have hn : ¬ (60 : Int) < (n0 : Int) := by omega
    have HP := Lib.hid (play_any A0 n0 c0 x0 (by omega) w hd0)
    have HK := Lib.hid (KeepR.start w)
    have HS := Lib.hid True.intro
    have HI := Lib.hid True.intro
    clear hd0
    go_enter Try.func7, Try.ntmps7
    go_wp2_with (first
      | (go_at_call 28; refine HP.out.mono ?_; rintro e u ⟨S, rfl, hS, hI, hb⟩; clear HS HI; have HS := Lib.hid hS; have HI := Lib.hid hI; have hk := HK.out.call hb; clear hb hS hI; clear HK; have HK := Lib.hid hk; clear hk)
      | (with_reducible refine alloc_zero HK.out 4608 s_zero rfl rfl ?_; intro b3 u hnn hk hb; clear hnn hb; clear HK; have HK := Lib.hid hk; clear hk)
      | (with_reducible refine store_all HK.out 0 4608 s_info rfl rfl _ _ rfl rfl rfl rfl HS.out (zer_length 4608) ?_; intro u hk hs; clear hs; simp only [List.set_cons_zero] at hk; clear HK; have HK := Lib.hid hk; clear hk)
      | (with_reducible refine alloc_zero HK.out 288 r_zero rfl rfl ?_; intro b4 u hnn hk hb; clear hnn hb; clear HK; have HK := Lib.hid hk; clear hk)
      | (with_reducible refine load_all HK.out 1 4608 Try.underlying42 rfl s_info rfl _ rfl rfl rfl HS.out ?_))
    go_loopw [22] (fun i wr => ∃ m : Nat, m ≤ 16 ∧ i = .int .i64 m ∧ ∃ AL : List Int, AL.length = 288 ∧ (∀ p, p < 288 → at_ AL p = mx (st S) m p) ∧ KeepR w [(b4, 26, AL), (b3, 42, S)] wr) (fun i _ => 16 - (intOf i).toNat)
    case atStart => exact ⟨0, by omega, rfl, zer 288, zer_length 288, fun p _ => zer_get _ _, HK.out⟩
    case round =>
      obtain ⟨m, hm, rfl, AL, hA, hM, hk⟩ := hrel
      clear HK
      have HK := Lib.hid hk; have HA := Lib.hid hA; have HM := Lib.hid hM
      clear hk hA hM
      by_cases hlt : m < 16
      · have hix : ∀ W : World, (Instr.index 42 (.agg (vals S).toArray) (.int .i64 (m : Int))).run Try.prog W = .ok (.agg (vals (seg S (m * 288) 288)).toArray) W := fun W => index_s hlt W
        have HL := Lib.hid (seg_length (R := S) (o := m * 288) (n := 288) (by have := HS.out; omega))
        have HN := Lib.hid (mx_step HS.out hlt HA.out HM.out)
        have HJ := Lib.hid (joinL_len HA.out HL.out)
        have jc := join_r AL (seg S (m * 288) 288) HA.out HL.out
        have j1 : (0 : Int) ≤ (m : Int) := by omega
        have j2 : (m : Int) < 16 := by omega
        go_wp2_with (first
          | (with_reducible refine alloc_zero HK.out 288 r_zero rfl rfl ?_; intro b6 u hnn hk hb; clear hnn hb; clear HK; have HK := Lib.hid hk; clear hk)
          | (with_reducible refine store_all HK.out 0 288 r_info rfl rfl _ _ rfl rfl rfl rfl HL.out (zer_length 288) ?_; intro u hk hs; clear hs; simp only [List.set_cons_zero] at hk; clear HK; have HK := Lib.hid hk; clear hk)
          | (with_reducible refine load_all HK.out 1 288 Try.underlying26 rfl r_info rfl _ rfl rfl rfl HA.out ?_)
          | (with_reducible refine load_all HK.out 0 288 Try.underlying26 rfl r_info rfl _ rfl rfl rfl HL.out ?_)
          | (go_at_call 24; (with_reducible refine (jc _).mono ?_); rintro e u ⟨rfl, hb⟩; have hk := HK.out.call hb; clear hb; clear HK; have HK := Lib.hid hk; clear hk)
          | (with_reducible refine store_all HK.out 1 288 r_info rfl rfl _ _ rfl rfl rfl rfl HJ.out HA.out ?_; intro u hk hs; clear hs; simp only [List.set_cons_zero, List.set_cons_succ] at hk; clear HK; have HK := Lib.hid hk; clear hk))
        go_roundw
        case rel => exact ⟨m + 1, by omega, by go_num, _, HJ.out, HN.out, HK.out.tail⟩
        case measure => simp [intOf]; omega
      · obtain rfl : m = 16 := by omega
        simp only [show ((16 : Nat) : Int) = 16 from rfl]
        have HALL := Lib.hid (⟨HA.out, HM.out⟩ : AllOf S AL)
        have HTO := Lib.hid (HALL.out.total HI.out)
        have hge : Try.prog.eqGuardType Try.prog.depth 23 = false := by kernel_rfl
        go_wp2_with fail
        go_loopw [7, 29] (fun s ii wr => ∃ k : Nat, k ≤ 16 ∧ ii = .int .i64 k ∧ s = .int .i64 (sumF (V (mx (st S) 16)) k) ∧ KeepR w [(b4, 26, AL), (b3, 42, S)] wr) (fun _ i _ => 16 - (intOf i).toNat)
        case atStart => exact ⟨0, by omega, rfl, rfl, HK.out⟩
        case round =>
          obtain ⟨k, hk0, rfl, rfl, hk⟩ := hrel
          clear HK
          have HK := Lib.hid hk; clear hk
          by_cases hlt : k < 16
          · have HL := Lib.hid (seg_length (R := S) (o := k * 288) (n := 288) (by have := HS.out; omega))
            have f1 := free_any AL HA.out (k : Int)
            rw [(HALL.out.told HI.out hlt).1, (HALL.out.told HI.out hlt).2] at f1
            have f2 := free_any (seg S (k * 288) 288) HL.out (k : Int)
            rw [(HI.out.told (Nat.le_refl _) HS.out hlt hlt).1, (HI.out.told (Nat.le_refl _) HS.out hlt hlt).2] at f2
            have hle := HI.out.all_ge hlt
            have h0 := HI.out.all_free hlt
            have hup := V_up (f := mx (st S) 16) (B := 60000) (fun p hp => by have := HI.out.all_pos hp; omega) hlt
            have hsm := HI.out.sums k hk0
            have HNX := Lib.hid (show sumF (V (mx (st S) 16)) (k + 1) = sumF (V (mx (st S) 16)) k + V (mx (st S) 16) k from rfl)
            generalize hsv : sumF (V (mx (st S) 16)) k = sm at hsm HNX
            clear hsv
            generalize V (mx (st S) 16) k = nT at f1 hle h0 hup HNX
            generalize V (st S k) k = mS at f2 hle
            have g1 : 0 ≤ sm := hsm.1
            have g2 : sm ≤ 16320000 := by have := hsm.2; omega
            clear hsm
            have g3 : decide (nT < mS) = false := decide_eq_false (by omega)
            have g4 : decide (mS > nT) = false := decide_eq_false (by omega)
            have HSZ := Lib.hid HS.out
            have HX1 := Lib.hid (own_same HS.out HI.out HALL.out hlt (.inl rfl : mine k k))
            have HX2 := Lib.hid (own_same HS.out HI.out HALL.out hlt (.inr (.inl rfl) : mine k (16 + k)))
            have HRW := Lib.hid (own_row HS.out HI.out HALL.out hlt)
            have qv := eql_vec (seg AL (32 + k * 16) 16) (seg AL (32 + k * 16) 16) (seg_length (by have := HA.out; omega)) (seg_length (by have := HA.out; omega))
            rw [beq_self_eq_true] at qv
            have k1 : (0 : Int) ≤ (k : Int) := by omega
            have k2 : (k : Int) < 16 := by omega
            go_wp2_with (first
              | (with_reducible refine load_all HK.out 0 288 Try.underlying26 rfl r_info rfl _ rfl rfl rfl HA.out ?_)
              | (with_reducible refine load_part HK.out 1 288 Try.underlying26 rfl r_info rfl _ rfl rfl rfl (by have := HS.out; omega) ?_)
              | (go_at_call 11; (with_reducible refine (f1 _).mono ?_); rintro e u ⟨rfl, hb⟩; have hk := HK.out.call hb; clear hb; clear HK; have HK := Lib.hid hk; clear hk)
              | (go_at_call 11; (with_reducible refine (f2 _).mono ?_); rintro e u ⟨rfl, hb⟩; have hk := HK.out.call hb; clear hb; clear HK; have HK := Lib.hid hk; clear hk))
            refine Draws.start (S := fun u => KeepR w [(b4, 26, AL), (b3, 42, S)] u) (n := 50) 50 rfl (by kernel_rfl) ?_
            have HQ := Lib.hid ((HK.out.drew : (fun u => KeepR w [(b4, 26, AL), (b3, 42, S)] u) _))
            refine Draws.take 0 (v := ?v1) HQ.out rfl (by kernel_rfl) (fun _ _ _ h => h) (Or.inl ⟨rfl, ?h1⟩) ?r1
            case h1 => intro w' hw'; go_simp; (try with_reducible rfl)
            (try simp only [Act.put, List.setIfInBounds_toArray, List.set_cons_zero, List.set_cons_succ])
            refine Draws.take 1 (v := ?v2) HQ.out rfl (by kernel_rfl) (fun _ _ _ h => h) (Or.inl ⟨rfl, ?h2⟩) ?r2
            case h2 => intro w' hw'; go_simp; (try with_reducible rfl)
            (try simp only [Act.put, List.setIfInBounds_toArray, List.set_cons_zero, List.set_cons_succ])
            refine Draws.take 2 (v := ?v3) HQ.out rfl (by kernel_rfl) (fun _ _ _ h => h) (Or.inl ⟨rfl, ?h3⟩) ?r3
            case h3 => intro w' hw'; go_simp; (try with_reducible rfl)
            (try simp only [Act.put, List.setIfInBounds_toArray, List.set_cons_zero, List.set_cons_succ])
            refine Draws.take 3 (v := ?v4) HQ.out rfl (by kernel_rfl) (fun _ _ _ h => h) (Or.inl ⟨rfl, ?h4⟩) ?r4
            case h4 => intro w' hw'; go_simp; (try with_reducible rfl)
            (try simp only [Act.put, List.setIfInBounds_toArray, List.set_cons_zero, List.set_cons_succ])
            refine Draws.take 4 (v := ?v5) HQ.out rfl (by kernel_rfl) (fun _ _ _ h => h) (Or.inl ⟨rfl, ?h5⟩) ?r5
            case h5 => intro w' hw'; go_simp; (try with_reducible rfl)
            (try simp only [Act.put, List.setIfInBounds_toArray, List.set_cons_zero, List.set_cons_succ])
            refine Draws.take 5 (v := ?v6) HQ.out rfl (by kernel_rfl) (fun _ _ _ h => h) (Or.inl ⟨rfl, ?h6⟩) ?r6
            case h6 => intro w' hw'; go_simp; (try with_reducible rfl)
            (try simp only [Act.put, List.setIfInBounds_toArray, List.set_cons_zero, List.set_cons_succ])
            refine Draws.take 6 (v := ?v7) HQ.out rfl (by kernel_rfl) (fun _ _ _ h => h) (Or.inl ⟨rfl, ?h7⟩) ?r7
            case h7 => intro w' hw'; go_simp; (try with_reducible rfl)
            (try simp only [Act.put, List.setIfInBounds_toArray, List.set_cons_zero, List.set_cons_succ])
            refine Draws.take 7 (v := ?v8) HQ.out rfl (by kernel_rfl) (fun _ _ _ h => h) (Or.inl ⟨rfl, ?h8⟩) ?r8
            case h8 => intro w' hw'; go_simp; (try with_reducible rfl)
            (try simp only [Act.put, List.setIfInBounds_toArray, List.set_cons_zero, List.set_cons_succ])
            refine Draws.take 8 (v := ?v9) HQ.out rfl (by kernel_rfl) (fun _ _ _ h => h) (Or.inl ⟨rfl, ?h9⟩) ?r9
            case h9 => intro w' hw'; go_simp; (try with_reducible rfl)
            (try simp only [Act.put, List.setIfInBounds_toArray, List.set_cons_zero, List.set_cons_succ])
            refine Draws.take 9 (v := ?v10) HQ.out rfl (by kernel_rfl) (fun _ _ _ h => h) (Or.inl ⟨rfl, ?h10⟩) ?r10
            case h10 => intro w' hw'; go_simp; (try with_reducible rfl)
            (try simp only [Act.put, List.setIfInBounds_toArray, List.set_cons_zero, List.set_cons_succ])
            refine Draws.take 10 (v := ?v11) HQ.out rfl (by kernel_rfl) (fun _ _ _ h => h) (Or.inl ⟨rfl, ?h11⟩) ?r11
            case h11 => intro w' hw'; go_simp; (try with_reducible rfl)
            (try simp only [Act.put, List.setIfInBounds_toArray, List.set_cons_zero, List.set_cons_succ])
            refine Draws.take 11 (v := ?v12) HQ.out rfl (by kernel_rfl) (fun _ _ _ h => h) (Or.inl ⟨rfl, ?h12⟩) ?r12
            case h12 => intro w' hw'; go_simp; (try with_reducible rfl)
            (try simp only [Act.put, List.setIfInBounds_toArray, List.set_cons_zero, List.set_cons_succ])
            refine Draws.take 12 (v := ?v13) HQ.out rfl (by kernel_rfl) (fun _ _ _ h => h) (Or.inl ⟨rfl, ?h13⟩) ?r13
            case h13 => intro w' hw'; go_simp; (try with_reducible rfl)
            (try simp only [Act.put, List.setIfInBounds_toArray, List.set_cons_zero, List.set_cons_succ])
            refine Draws.take 13 (v := ?v14) HQ.out rfl (by kernel_rfl) (fun _ _ _ h => h) (Or.inl ⟨rfl, ?h14⟩) ?r14
            case h14 => intro w' hw'; go_simp; (try with_reducible rfl)
            (try simp only [Act.put, List.setIfInBounds_toArray, List.set_cons_zero, List.set_cons_succ])
            refine Draws.take 14 (v := ?v15) HQ.out rfl (by kernel_rfl) (fun _ _ _ h => h) (Or.inl ⟨rfl, ?h15⟩) ?r15
            case h15 => intro w' hw'; go_simp; (try with_reducible rfl)
            (try simp only [Act.put, List.setIfInBounds_toArray, List.set_cons_zero, List.set_cons_succ])
            refine Draws.take 15 (v := ?v16) HQ.out rfl (by kernel_rfl) (fun _ _ _ h => h) (Or.inl ⟨rfl, ?h16⟩) ?r16
            case h16 => intro w' hw'; go_simp; (try with_reducible rfl)
            (try simp only [Act.put, List.setIfInBounds_toArray, List.set_cons_zero, List.set_cons_succ])
            refine Draws.take 16 (v := ?v17) HQ.out rfl (by kernel_rfl) (fun _ _ _ h => h) (Or.inl ⟨rfl, ?h17⟩) ?r17
            case h17 => intro w' hw'; go_simp; (try with_reducible rfl)
            (try simp only [Act.put, List.setIfInBounds_toArray, List.set_cons_zero, List.set_cons_succ])
            refine Draws.take 17 (v := ?v18) HQ.out rfl (by kernel_rfl) (fun _ _ _ h => h) (Or.inl ⟨rfl, ?h18⟩) ?r18
            case h18 => intro w' hw'; have hc := (hw'.get 1 rfl).cell (k := k * 288 + k) (by have := HSZ.out; omega); rw [HX1.out] at hc; go_simp; (try with_reducible rfl)
            (try simp only [Act.put, List.setIfInBounds_toArray, List.set_cons_zero, List.set_cons_succ])
            refine Draws.take 18 (v := ?v19) HQ.out rfl (by kernel_rfl) (fun _ _ _ h => h) (Or.inl ⟨rfl, ?h19⟩) ?r19
            case h19 => intro w' hw'; go_simp; (try with_reducible rfl)
            (try simp only [Act.put, List.setIfInBounds_toArray, List.set_cons_zero, List.set_cons_succ])
            refine Draws.take 19 (v := ?v20) HQ.out rfl (by kernel_rfl) (fun _ _ _ h => h) (Or.inl ⟨rfl, ?h20⟩) ?r20
            case h20 => intro w' hw'; go_simp; (try with_reducible rfl)
            (try simp only [Act.put, List.setIfInBounds_toArray, List.set_cons_zero, List.set_cons_succ])
            refine Draws.take 20 (v := ?v21) HQ.out rfl (by kernel_rfl) (fun _ _ _ h => h) (Or.inl ⟨rfl, ?h21⟩) ?r21
            case h21 => intro w' hw'; go_simp; (try with_reducible rfl)
            (try simp only [Act.put, List.setIfInBounds_toArray, List.set_cons_zero, List.set_cons_succ])
            refine Draws.take 21 (v := ?v22) HQ.out rfl (by kernel_rfl) (fun _ _ _ h => h) (Or.inl ⟨rfl, ?h22⟩) ?r22
            case h22 => intro w' hw'; have hc := (hw'.get 0 rfl).cell (k := k) (by have := HA.out; omega); go_simp; (try with_reducible rfl)
            (try simp only [Act.put, List.setIfInBounds_toArray, List.set_cons_zero, List.set_cons_succ])
            refine Draws.take 22 (v := ?v23) HQ.out rfl (by kernel_rfl) (fun _ _ _ h => h) (Or.inl ⟨rfl, ?h23⟩) ?r23
            case h23 => intro w' hw'; go_simp; (try with_reducible rfl)
            (try simp only [Act.put, List.setIfInBounds_toArray, List.set_cons_zero, List.set_cons_succ])
            refine Draws.take 23 (v := ?v24) HQ.out rfl (by kernel_rfl) (fun _ _ _ h => h) (Or.inl ⟨rfl, ?h24⟩) ?r24
            case h24 => intro w' hw'; go_simp; (try with_reducible rfl)
            (try simp only [Act.put, List.setIfInBounds_toArray, List.set_cons_zero, List.set_cons_succ])
            refine Draws.take 24 (v := ?v25) HQ.out rfl (by kernel_rfl) (fun _ _ _ h => h) (Or.inl ⟨rfl, ?h25⟩) ?r25
            case h25 => intro w' hw'; go_simp; (try with_reducible rfl)
            (try simp only [Act.put, List.setIfInBounds_toArray, List.set_cons_zero, List.set_cons_succ])
            refine Draws.take 25 (v := ?v26) HQ.out rfl (by kernel_rfl) (fun _ _ _ h => h) (Or.inl ⟨rfl, ?h26⟩) ?r26
            case h26 => intro w' hw'; go_simp; (try with_reducible rfl)
            (try simp only [Act.put, List.setIfInBounds_toArray, List.set_cons_zero, List.set_cons_succ])
            refine Draws.take 26 (v := ?v27) HQ.out rfl (by kernel_rfl) (fun _ _ _ h => h) (Or.inl ⟨rfl, ?h27⟩) ?r27
            case h27 => intro w' hw'; go_simp; (try with_reducible rfl)
            (try simp only [Act.put, List.setIfInBounds_toArray, List.set_cons_zero, List.set_cons_succ])
            refine Draws.take 27 (v := ?v28) HQ.out rfl (by kernel_rfl) (fun _ _ _ h => h) (Or.inl ⟨rfl, ?h28⟩) ?r28
            case h28 => intro w' hw'; go_simp; (try with_reducible rfl)
            (try simp only [Act.put, List.setIfInBounds_toArray, List.set_cons_zero, List.set_cons_succ])
            refine Draws.take 28 (v := ?v29) HQ.out rfl (by kernel_rfl) (fun _ _ _ h => h) (Or.inl ⟨rfl, ?h29⟩) ?r29
            case h29 => intro w' hw'; go_simp; (try with_reducible rfl)
            (try simp only [Act.put, List.setIfInBounds_toArray, List.set_cons_zero, List.set_cons_succ])
            refine Draws.take 29 (v := ?v30) HQ.out rfl (by kernel_rfl) (fun _ _ _ h => h) (Or.inl ⟨rfl, ?h30⟩) ?r30
            case h30 => intro w' hw'; go_simp; (try with_reducible rfl)
            (try simp only [Act.put, List.setIfInBounds_toArray, List.set_cons_zero, List.set_cons_succ])
            refine Draws.take 30 (v := ?v31) HQ.out rfl (by kernel_rfl) (fun _ _ _ h => h) (Or.inl ⟨rfl, ?h31⟩) ?r31
            case h31 => intro w' hw'; have hc := (hw'.get 1 rfl).cell (k := k * 288 + 16 + k) (by have := HSZ.out; omega); rw [Nat.add_assoc, HX2.out] at hc; rw [← Nat.add_assoc] at hc; go_simp; (try with_reducible rfl)
            (try simp only [Act.put, List.setIfInBounds_toArray, List.set_cons_zero, List.set_cons_succ])
            refine Draws.take 31 (v := ?v32) HQ.out rfl (by kernel_rfl) (fun _ _ _ h => h) (Or.inl ⟨rfl, ?h32⟩) ?r32
            case h32 => intro w' hw'; go_simp; (try with_reducible rfl)
            (try simp only [Act.put, List.setIfInBounds_toArray, List.set_cons_zero, List.set_cons_succ])
            refine Draws.take 32 (v := ?v33) HQ.out rfl (by kernel_rfl) (fun _ _ _ h => h) (Or.inl ⟨rfl, ?h33⟩) ?r33
            case h33 => intro w' hw'; go_simp; (try with_reducible rfl)
            (try simp only [Act.put, List.setIfInBounds_toArray, List.set_cons_zero, List.set_cons_succ])
            refine Draws.take 33 (v := ?v34) HQ.out rfl (by kernel_rfl) (fun _ _ _ h => h) (Or.inl ⟨rfl, ?h34⟩) ?r34
            case h34 => intro w' hw'; go_simp; (try with_reducible rfl)
            (try simp only [Act.put, List.setIfInBounds_toArray, List.set_cons_zero, List.set_cons_succ])
            refine Draws.take 34 (v := ?v35) HQ.out rfl (by kernel_rfl) (fun _ _ _ h => h) (Or.inl ⟨rfl, ?h35⟩) ?r35
            case h35 => intro w' hw'; have hc := (hw'.get 0 rfl).cell (k := 16 + k) (by have := HA.out; omega); go_simp; (try with_reducible rfl)
            (try simp only [Act.put, List.setIfInBounds_toArray, List.set_cons_zero, List.set_cons_succ])
            refine Draws.take 35 (v := ?v36) HQ.out rfl (by kernel_rfl) (fun _ _ _ h => h) (Or.inl ⟨rfl, ?h36⟩) ?r36
            case h36 => intro w' hw'; go_simp; (try with_reducible rfl)
            (try simp only [Act.put, List.setIfInBounds_toArray, List.set_cons_zero, List.set_cons_succ])
            refine Draws.take 36 (v := ?v37) HQ.out rfl (by kernel_rfl) (fun _ _ _ h => h) (Or.inl ⟨rfl, ?h37⟩) ?r37
            case h37 => intro w' hw'; go_simp; (try with_reducible rfl)
            (try simp only [Act.put, List.setIfInBounds_toArray, List.set_cons_zero, List.set_cons_succ])
            refine Draws.take 37 (v := ?v38) HQ.out rfl (by kernel_rfl) (fun _ _ _ h => h) (Or.inl ⟨rfl, ?h38⟩) ?r38
            case h38 => intro w' hw'; go_simp; (try with_reducible rfl)
            (try simp only [Act.put, List.setIfInBounds_toArray, List.set_cons_zero, List.set_cons_succ])
            refine Draws.take 38 (v := ?v39) HQ.out rfl (by kernel_rfl) (fun _ _ _ h => h) (Or.inl ⟨rfl, ?h39⟩) ?r39
            case h39 => intro w' hw'; go_simp; (try with_reducible rfl)
            (try simp only [Act.put, List.setIfInBounds_toArray, List.set_cons_zero, List.set_cons_succ])
            refine Draws.take 39 (v := ?v40) HQ.out rfl (by kernel_rfl) (fun _ _ _ h => h) (Or.inl ⟨rfl, ?h40⟩) ?r40
            case h40 => intro w' hw'; go_simp; (try with_reducible rfl)
            (try simp only [Act.put, List.setIfInBounds_toArray, List.set_cons_zero, List.set_cons_succ])
            refine Draws.take 40 (v := ?v41) HQ.out rfl (by kernel_rfl) (fun _ _ _ h => h) (Or.inl ⟨rfl, ?h41⟩) ?r41
            case h41 => intro w' hw'; go_simp; (try with_reducible rfl)
            (try simp only [Act.put, List.setIfInBounds_toArray, List.set_cons_zero, List.set_cons_succ])
            refine Draws.take 41 (v := ?v42) HQ.out rfl (by kernel_rfl) (fun _ _ _ h => h) (Or.inl ⟨rfl, ?h42⟩) ?r42
            case h42 => intro w' hw'; go_simp; (try with_reducible rfl)
            (try simp only [Act.put, List.setIfInBounds_toArray, List.set_cons_zero, List.set_cons_succ])
            refine Draws.take 42 (v := ?v43) HQ.out rfl (by kernel_rfl) (fun _ _ _ h => h) (Or.inl ⟨rfl, ?h43⟩) ?r43
            case h43 => intro w' hw'; go_simp; (try with_reducible rfl)
            (try simp only [Act.put, List.setIfInBounds_toArray, List.set_cons_zero, List.set_cons_succ])
            refine Draws.take 43 HQ.out rfl (by kernel_rfl) (fun _ _ _ h => h) (yield_eq HRW.out (yield_part (fun _ h => h) 1 16 Try.underlying23 rfl vec_info rfl _ rfl rfl rfl (by have := HSZ.out; omega))) ?_
            (try simp only [Act.put, List.setIfInBounds_toArray, List.set_cons_zero, List.set_cons_succ])
            refine Draws.take 44 (v := ?v44) HQ.out rfl (by kernel_rfl) (fun _ _ _ h => h) (Or.inl ⟨rfl, ?h44⟩) ?r44
            case h44 => intro w' hw'; go_simp; (try with_reducible rfl)
            (try simp only [Act.put, List.setIfInBounds_toArray, List.set_cons_zero, List.set_cons_succ])
            refine Draws.take 45 (v := ?v45) HQ.out rfl (by kernel_rfl) (fun _ _ _ h => h) (Or.inl ⟨rfl, ?h45⟩) ?r45
            case h45 => intro w' hw'; go_simp; (try with_reducible rfl)
            (try simp only [Act.put, List.setIfInBounds_toArray, List.set_cons_zero, List.set_cons_succ])
            refine Draws.take 46 (v := ?v46) HQ.out rfl (by kernel_rfl) (fun _ _ _ h => h) (Or.inl ⟨rfl, ?h46⟩) ?r46
            case h46 => intro w' hw'; go_simp; (try with_reducible rfl)
            (try simp only [Act.put, List.setIfInBounds_toArray, List.set_cons_zero, List.set_cons_succ])
            refine Draws.take 47 HQ.out rfl (by kernel_rfl) (fun _ _ _ h => h) (yield_part (fun _ h => h) 0 16 Try.underlying23 rfl vec_info rfl _ rfl rfl rfl (by have := HA.out; omega)) ?_
            (try simp only [Act.put, List.setIfInBounds_toArray, List.set_cons_zero, List.set_cons_succ])
            refine Draws.take 48 (v := ?v47) HQ.out rfl (by kernel_rfl) (fun _ _ _ h => h) (Or.inl ⟨rfl, ?h47⟩) ?r47
            case h47 => intro w' hw'; go_simp; (try with_reducible rfl)
            (try simp only [Act.put, List.setIfInBounds_toArray, List.set_cons_zero, List.set_cons_succ])
            refine Draws.take 49 (v := ?v48) HQ.out rfl (by kernel_rfl) (fun _ _ _ h => h) (Or.inl ⟨rfl, ?h48⟩) ?r48
            case h48 => intro w' hw'; go_simp; (try with_reducible rfl)
            (try simp only [Act.put, List.setIfInBounds_toArray, List.set_cons_zero, List.set_cons_succ])
            refine Draws.done (by kernel_rfl) ?_
            have hk := HQ.out
            clear HQ HK
            have HK := Lib.hid hk; clear hk
            go_wp2
            go_roundw
            case rel => exact ⟨k + 1, by omega, by go_num, by rw [HNX.out], HK.out⟩
            case measure => simp [intOf]; omega
          · obtain rfl : k = 16 := by omega
            have t1 := total_any AL HA.out
            rw [HTO.out.1, HTO.out.2] at t1
            generalize sumF (V (mx (st S) 16)) 16 = tot0 at t1
            go_wp2_with (first
              | (with_reducible refine load_all HK.out 0 288 Try.underlying26 rfl r_info rfl _ rfl rfl rfl HA.out ?_)
              | (go_at_call 13; (with_reducible refine (t1 _).mono ?_); rintro e u ⟨rfl, hb⟩; have hk := HK.out.call hb; clear hb; clear HK; have HK := Lib.hid hk; clear hk)
              | (go_at_call 17; (with_reducible refine (awake3 _).mono ?_); rintro e u ⟨rfl, hb⟩; have hk := HK.out.call hb; clear hb; clear HK; have HK := Lib.hid hk; clear hk))
            go_ret
            exact ⟨rfl, HK.out.bel⟩

set_option maxRecDepth 100000 in
theorem lifted (os : Os) (started : os.Started) (H : Type) (enc : TypeId × Value → H) :
    ReturnsInHanded {} Try.checked os 7 .any (Rows.rightsSumSpec.pre6 enc Try.prog Try.f7 Rows.rightsSumRow.domain false) (Rows.rightsSumSpec.post enc Try.prog Try.f7 false true false false) := by
  refine returnsInHanded_of_change (C := Try.checked) own started (by kernel_rfl) Try.func7
    (ChangeSpec.witness6 (enc := enc) (C := Try.checked) false ⟨#[], #[.slice none 0 0], []⟩ 12 (by kernel_rfl) (by kernel_rfl) (by kernel_rfl) (by kernel_rfl)) ?_
  intro W base args ds gs before hval0 hW hcnd _
  have hval : ∀ (j : Nat) t v, Try.f7.params[j]? = some t → args[j]? = some v → Value.okWide Try.prog W .any base t v := hval0
  have hW' := hW
  obtain ⟨p, q, hA0, hV, rfl, hfz, hnd⟩ := hW
  have hA : DataW.TrodAll enc Try.prog W 0 (fun _ => true) true Try.f7.params.toList args.toList ds p := hA0
  rw [Try.params7] at hA hval
  obtain ⟨v0, vs0, d0, ds0, p0, q0, hargs, rfl, rfl, h0, r0⟩ := trodAll_cons hA
  obtain ⟨rfl, rfl, rfl⟩ := trodAll_nil r0
  obtain rfl : args = #[v0] := by cases args; simp_all
  obtain ⟨rfl, rfl⟩ := trodVars_none hV
  have k0 := h0
  have lt0 : ∀ x ∈ p0, x.block < W.heap.size := by obtain ⟨m, hm⟩ := k0; exact DataW.trod_lt m _ _ _ hm
  obtain ⟨A0, n0, c0, x0, rfl, hd0⟩ := open_steps (hval 0 41 v0 rfl rfl) h0
  clear hA0 hval0
  refine (walk W A0 n0 c0 x0 hd0).mono fun e W' ⟨he, bel⟩ => ?_
  subst he
  exact ⟨_, rfl, _, _, _, [], _, [], hW', trodAll_mk1 (shut_bool Try.underlying4 _), (trodAll_cons_mk (Below.trod laidOut (by kernel_rfl) (of_decide_eq_true (by kernel_rfl)) k0 bel lt0) trodAll_mk0), rfl, bel.frame _, fun h => by cases h⟩

theorem over : Rows.rightsSumRow.holds Try.pinned (OpenSpec.ofChange Rows.rightsSumSpec) :=
  OpenClaim.holds_of_wide 7 Try.f7 rfl rfl rfl rfl rfl rfl rfl ⟨rfl, rfl, rfl, rfl, rfl⟩ rfl rfl rfl rfl rfl (by kernel_rfl) Try.func7 (by kernel_rfl)
    (of_decide_eq_true (by kernel_rfl)) (by unfold Func.isWrapper; first | (rw [if_pos (by decide +kernel)]; kernel_rfl) | (rw [if_neg (by decide +kernel)]; exact ⟨rfl, rfl⟩))
    (fun os started H enc _ => lifted os started H enc)

theorem proved : Rows.RightsSumSaid := over
#print axioms proved
end Go.Proofs.Ytpbjencigepnfaa.rightsSum
