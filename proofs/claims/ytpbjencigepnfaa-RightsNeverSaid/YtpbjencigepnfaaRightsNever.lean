/- For every row of steps usufructlaw03.RightsNever returns true, and the argument reads as before. No condition. -/
import Derived.Test.YtpbjencigepnfaaRtAll
import Derived.WalkKit
import Derived.ProofKit
import Derived.OpenShut
import Derived.ChangeOld
import Derived.Below
namespace Go.Proofs.Ytpbjencigepnfaa.rightsNever
open Go.ChangeShapes Go.WideShapes Go.ChangeAt Go.RowKit
set_option linter.unusedVariables false

theorem own : ownKnob Try.prog.godebug = none := by kernel_rfl
theorem laidOut : laidOutB Try.prog = true := by kernel_rfl

set_option maxRecDepth 100000 in
set_option maxHeartbeats 4000000 in
theorem walk (w : World) (A0 : Option Addr) (n0 c0 : Nat) (x0 : List Int) (hd0 : Steps w A0 n0 x0) :
    Calls Try.prog 6 #[.slice A0 n0 c0] w fun e w' => e = .returned (.bool true) ∧ Below w.heap.size w w' := by
  by_cases h60 : 60 < n0
  · have hn : (60 : Int) < (n0 : Int) := by omega
    have HK := Lib.hid (KeepR.start w)
    go_enter Try.func6, Try.ntmps6
    go_wp2_with (first
      | (go_at_call 17; (with_reducible refine (awake3 _).mono ?_); rintro e u ⟨rfl, hb⟩; have hk := HK.out.call hb; clear hb; clear HK; have HK := Lib.hid hk; clear hk))
    go_ret
    exact ⟨rfl, HK.out.bel⟩
  · have hn : ¬ (60 : Int) < (n0 : Int) := by omega
    have HP := Lib.hid (play_any A0 n0 c0 x0 (by omega) w hd0)
    have HK := Lib.hid (KeepR.start w)
    have HS := Lib.hid True.intro
    have HI := Lib.hid True.intro
    clear hd0
    go_enter Try.func6, Try.ntmps6
    go_wp2_with (first
      | (go_at_call 28; refine HP.out.mono ?_; rintro e u ⟨S, rfl, hS, hI, hb⟩; clear HS HI; have HS := Lib.hid hS; have HI := Lib.hid hI; have hk := HK.out.call hb; clear hb hS hI; clear HK; have HK := Lib.hid hk; clear hk)
      | (with_reducible refine alloc_zero HK.out 4608 s_zero rfl rfl ?_; intro b3 u hnn hk hb; clear hnn hb; clear HK; have HK := Lib.hid hk; clear hk)
      | (with_reducible refine store_all HK.out 0 4608 s_info rfl rfl _ _ rfl rfl rfl rfl HS.out (zer_length 4608) ?_; intro u hk hs; clear hs; simp only [List.set_cons_zero] at hk; clear HK; have HK := Lib.hid hk; clear hk)
      | (with_reducible refine alloc_zero HK.out 288 r_zero rfl rfl ?_; intro b4 u hnn hk hb; clear hnn hb; clear HK; have HK := Lib.hid hk; clear hk)
      | (with_reducible refine load_all HK.out 1 4608 Try.underlying42 rfl s_info rfl _ rfl rfl rfl HS.out ?_))
    go_loopw [19] (fun i wr => ∃ m : Nat, m ≤ 16 ∧ i = .int .i64 m ∧ ∃ AL : List Int, AL.length = 288 ∧ (∀ p, p < 288 → at_ AL p = mx (st S) m p) ∧ KeepR w [(b4, 26, AL), (b3, 42, S)] wr) (fun i _ => 16 - (intOf i).toNat)
    case atStart => exact ⟨0, by omega, rfl, zer 288, zer_length 288, fun p _ => zer_get _ _, HK.out⟩
    case round =>
      obtain ⟨m, hm, rfl, AL, hA, hM, hk⟩ := hrel
      clear HK
      have HK := Lib.hid hk; have HA := Lib.hid hA; have HM := Lib.hid hM
      clear hk hA hM
      by_cases hlt : m < 16
      · have hix : ∀ W : World, (Instr.index 42 (.agg (vals S).toArray) (.int .i64 (m : Int))).run Try.prog W = .ok (.agg (vals (seg S (m * 288) 288)).toArray) W := fun W => index_s hlt W
        have HL := Lib.hid (seg_length (R := S) (o := m * 288) (n := 288) (by have := HS.out; omega))
        have HN := Lib.hid (mx_step HS.out hlt HA.out HM.out)
        have HJ := Lib.hid (joinL_len HA.out HL.out)
        have jc := join_r AL (seg S (m * 288) 288) HA.out HL.out
        have j1 : (0 : Int) ≤ (m : Int) := by omega
        have j2 : (m : Int) < 16 := by omega
        go_wp2_with (first
          | (with_reducible refine alloc_zero HK.out 288 r_zero rfl rfl ?_; intro b6 u hnn hk hb; clear hnn hb; clear HK; have HK := Lib.hid hk; clear hk)
          | (with_reducible refine store_all HK.out 0 288 r_info rfl rfl _ _ rfl rfl rfl rfl HL.out (zer_length 288) ?_; intro u hk hs; clear hs; simp only [List.set_cons_zero] at hk; clear HK; have HK := Lib.hid hk; clear hk)
          | (with_reducible refine load_all HK.out 1 288 Try.underlying26 rfl r_info rfl _ rfl rfl rfl HA.out ?_)
          | (with_reducible refine load_all HK.out 0 288 Try.underlying26 rfl r_info rfl _ rfl rfl rfl HL.out ?_)
          | (go_at_call 24; (with_reducible refine (jc _).mono ?_); rintro e u ⟨rfl, hb⟩; have hk := HK.out.call hb; clear hb; clear HK; have HK := Lib.hid hk; clear hk)
          | (with_reducible refine store_all HK.out 1 288 r_info rfl rfl _ _ rfl rfl rfl rfl HJ.out HA.out ?_; intro u hk hs; clear hs; simp only [List.set_cons_zero, List.set_cons_succ] at hk; clear HK; have HK := Lib.hid hk; clear hk))
        go_roundw
        case rel => exact ⟨m + 1, by omega, by go_num, _, HJ.out, HN.out, HK.out.tail⟩
        case measure => simp [intOf]; omega
      · obtain rfl : m = 16 := by omega
        simp only [show ((16 : Nat) : Int) = 16 from rfl]
        have HALL := Lib.hid (⟨HA.out, HM.out⟩ : AllOf S AL)
        go_wp2_with fail
        refine Draws.start (S := fun u => KeepR w [(b4, 26, AL), (b3, 42, S)] u) (n := 6) 6 rfl (by kernel_rfl) ?_
        have HS1 := Lib.hid ((HK.out.drew : (fun u => KeepR w [(b4, 26, AL), (b3, 42, S)] u) _))
        refine Draws.take 0 (v := ?v1) HS1.out rfl (by kernel_rfl) (fun _ _ _ h => h) (Or.inl ⟨rfl, ?h1⟩) ?r1
        case h1 => intro w' hw'; go_simp; (try with_reducible rfl)
        (try simp only [Act.put, List.setIfInBounds_toArray, List.set_cons_zero, List.set_cons_succ])
        refine Draws.take 1 HS1.out rfl (by kernel_rfl) (fun _ _ _ h => h) (yield_all (fun _ h => h) 0 288 Try.underlying26 rfl r_info rfl _ rfl rfl rfl HA.out) ?_
        (try simp only [Act.put, List.setIfInBounds_toArray, List.set_cons_zero, List.set_cons_succ])
        refine Draws.take 5 (v := ?v2) HS1.out rfl (by kernel_rfl) (fun _ _ _ h => h) (Or.inl ⟨rfl, ?h2⟩) ?r2
        case h2 => intro w' hw'; go_simp; (try with_reducible rfl)
        (try simp only [Act.put, List.setIfInBounds_toArray, List.set_cons_zero, List.set_cons_succ])
        refine Draws.does 2 rfl (by kernel_rfl) rfl (fun K hK => ?_)
        refine wp_buildr1 HS1.out _ rfl rfl HA.out ?_
        intro bq u hk hb
        have HX := Lib.hid hk
        refine hK.out _ _ (fun _ => hk.tail) ?_
        clear hK K
        have hs : (fun u => KeepR w [(b4, 26, AL), (b3, 42, S)] u) u := hk.tail
        clear HS1
        have HS1 := Lib.hid hs; clear hs
        (try simp only [Act.put, List.setIfInBounds_toArray, List.set_cons_zero, List.set_cons_succ])
        clear hk hb
        obtain ⟨g, cg, u', h1, h2, h3⟩ := append_states (HX.out.get 2 rfl) HS.out (HX.out.get 0 rfl) HA.out 44
        have hk := HS1.out.call h3
        have HV := Lib.hid h2
        have HAP := Lib.hid h1
        clear h1 h2 h3 HX
        refine Draws.does 3 rfl (by kernel_rfl) rfl (fun K hK => ?_)
        refine Lib.wp_append_run _ _ _ _ _ rfl _ _ rfl rfl _ _ HAP.out ?_
        refine hK.out _ _ (fun _ => hk) ?_
        clear hK K
        have hs : (fun u => KeepR w [(b4, 26, AL), (b3, 42, S)] u) u' := hk
        clear HS1
        have HS1 := Lib.hid hs; clear hs
        (try simp only [Act.put, List.setIfInBounds_toArray, List.set_cons_zero, List.set_cons_succ])
        clear hk HK
        refine Draws.take 4 (v := ?v3) HS1.out rfl (by kernel_rfl) (fun _ _ _ h => h) (Or.inl ⟨rfl, ?h3⟩) ?r3
        case h3 => intro w' hw'; go_simp; (try with_reducible rfl)
        (try simp only [Act.put, List.setIfInBounds_toArray, List.set_cons_zero, List.set_cons_succ])
        refine Draws.done (by kernel_rfl) ?_
        have hk := HS1.out
        clear HS1 HAP
        have HK := Lib.hid hk.bel; clear hk
        have HSL := Lib.hid (show (S ++ AL).length = 17 * 288 by rw [List.length_append, HS.out, HA.out])
        have HEF := Lib.hid (fun i k (hi : i < 17) (hk : k < 16) => each_free HS.out HI.out HALL.out hi hk)
        generalize S ++ AL = Q at HV HSL HEF
        go_wp2_with fail
        go_loopw [31] (fun ii wr => ∃ i : Nat, i ≤ 17 ∧ ii = .int .i64 i ∧ Below w.heap.size w wr ∧ RowAt wr g Q) (fun i _ => 17 - (intOf i).toNat)
        case atStart => exact ⟨0, by omega, rfl, HK.out, HV.out⟩
        case round =>
          obtain ⟨i, hi0, rfl, hbel, hv⟩ := hrel
          clear HK HV
          have HK := Lib.hid (show KeepR w [] wr from ⟨hbel, by simp, by simp⟩); have HV := Lib.hid hv
          clear hbel hv
          by_cases hlt : i < 17
          · have HL := Lib.hid (seg_length (R := Q) (o := i * 288) (n := 288) (by have := HSL.out; omega))
            have HFR := Lib.hid (fun k : Nat => free_any (seg Q (i * 288) 288) HL.out (k : Int))
            have HEI := Lib.hid (fun k (hk : k < 16) => HEF.out i k hlt hk)
            have i1 : (0 : Int) ≤ (i : Int) := by omega
            have i2 : (i : Int) < 17 := by omega
            have hne := Lib.hid True.intro
            go_wp2_with (first
              | (with_reducible refine alloc_zero HK.out 288 r_zero rfl rfl ?_; intro b8 u hnn hk hb; clear hne; have hne := Lib.hid (Nat.ne_of_lt (hnn ▸ HV.out.lt)); have hv := HV.out.call hb; clear hb hnn HV; have HV := Lib.hid hv; clear hv; clear HK; have HK := Lib.hid hk; clear hk)
              | (with_reducible refine store_all HK.out 0 288 r_info rfl rfl _ _ rfl rfl rfl rfl HL.out (zer_length 288) ?_; intro u hk hs; have hv := HV.out.other hs hne.out; clear hs HV; have HV := Lib.hid hv; clear hv; simp only [List.set_cons_zero] at hk; clear HK; have HK := Lib.hid hk; clear hk)
              | (with_reducible refine load_rowr HV.out rfl _ rfl rfl (by have := HSL.out; omega) ?_))
            go_loopw [35] (fun ii wr => ∃ k : Nat, k ≤ 16 ∧ ii = .int .i64 k ∧ KeepR w [(b8, 26, seg Q (i * 288) 288)] wr ∧ RowAt wr g Q) (fun i _ => 16 - (intOf i).toNat)
            case atStart => exact ⟨0, by omega, rfl, HK.out, HV.out⟩
            case round =>
              obtain ⟨k, hk0, rfl, hk, hv⟩ := hrel
              clear HK HV
              have HK := Lib.hid hk; have HV := Lib.hid hv
              clear hk hv
              by_cases hkt : k < 16
              · have f1 := HFR.out k
                obtain ⟨e1, e2⟩ := HEI.out k hkt
                rw [e1] at f1
                generalize freeN (seg Q (i * 288) 288) (k : Int) = fn at e2 f1
                clear e1
                have fneg : ¬ fn < 0 := by omega
                have k1 : (0 : Int) ≤ (k : Int) := by omega
                have k2 : (k : Int) < 16 := by omega
                go_wp2_with (first
                  | (with_reducible refine load_all HK.out 0 288 Try.underlying26 rfl r_info rfl _ rfl rfl rfl HL.out ?_)
                  | (go_at_call 11; (with_reducible refine (f1 _).mono ?_); rintro e u ⟨rfl, hb⟩; have hk := HK.out.call hb; have hv := HV.out.call hb; clear hb HV; have HV := Lib.hid hv; clear hv; clear HK; have HK := Lib.hid hk; clear hk))
                go_roundw
                case rel => exact ⟨k + 1, by omega, by go_num, HK.out, HV.out⟩
                case measure => simp [intOf]; omega
              · obtain rfl : k = 16 := by omega
                go_wp2_with fail
                go_roundw
                case rel => exact ⟨i + 1, by omega, by go_num, HK.out.bel, HV.out⟩
                case measure => simp [intOf]; omega
          · obtain rfl : i = 17 := by omega
            go_wp2_with (first
              | (go_at_call 17; (with_reducible refine (awake3 _).mono ?_); rintro e u ⟨rfl, hb⟩; have hk := HK.out.call hb; clear hb; clear HK; have HK := Lib.hid hk; clear hk))
            go_ret
            exact ⟨rfl, HK.out.bel⟩

set_option maxRecDepth 100000 in
theorem lifted (os : Os) (started : os.Started) (H : Type) (enc : TypeId × Value → H) :
    ReturnsInHanded {} Try.checked os 6 .any (Rows.rightsNeverSpec.pre6 enc Try.prog Try.f6 Rows.rightsNeverRow.domain false) (Rows.rightsNeverSpec.post enc Try.prog Try.f6 false true false false) := by
  refine returnsInHanded_of_change (C := Try.checked) own started (by kernel_rfl) Try.func6
    (ChangeSpec.witness6 (enc := enc) (C := Try.checked) false ⟨#[], #[.slice none 0 0], []⟩ 12 (by kernel_rfl) (by kernel_rfl) (by kernel_rfl) (by kernel_rfl)) ?_
  intro W base args ds gs before hval0 hW hcnd _
  have hval : ∀ (j : Nat) t v, Try.f6.params[j]? = some t → args[j]? = some v → Value.okWide Try.prog W .any base t v := hval0
  have hW' := hW
  obtain ⟨p, q, hA0, hV, rfl, hfz, hnd⟩ := hW
  have hA : DataW.TrodAll enc Try.prog W 0 (fun _ => true) true Try.f6.params.toList args.toList ds p := hA0
  rw [Try.params6] at hA hval
  obtain ⟨v0, vs0, d0, ds0, p0, q0, hargs, rfl, rfl, h0, r0⟩ := trodAll_cons hA
  obtain ⟨rfl, rfl, rfl⟩ := trodAll_nil r0
  obtain rfl : args = #[v0] := by cases args; simp_all
  obtain ⟨rfl, rfl⟩ := trodVars_none hV
  have k0 := h0
  have lt0 : ∀ x ∈ p0, x.block < W.heap.size := by obtain ⟨m, hm⟩ := k0; exact DataW.trod_lt m _ _ _ hm
  obtain ⟨A0, n0, c0, x0, rfl, hd0⟩ := open_steps (hval 0 41 v0 rfl rfl) h0
  clear hA0 hval0
  refine (walk W A0 n0 c0 x0 hd0).mono fun e W' ⟨he, bel⟩ => ?_
  subst he
  exact ⟨_, rfl, _, _, _, [], _, [], hW', trodAll_mk1 (shut_bool Try.underlying4 _), (trodAll_cons_mk (Below.trod laidOut (by kernel_rfl) (of_decide_eq_true (by kernel_rfl)) k0 bel lt0) trodAll_mk0), rfl, bel.frame _, fun h => by cases h⟩

theorem over : Rows.rightsNeverRow.holds Try.pinned (OpenSpec.ofChange Rows.rightsNeverSpec) :=
  OpenClaim.holds_of_wide 6 Try.f6 rfl rfl rfl rfl rfl rfl rfl ⟨rfl, rfl, rfl, rfl, rfl⟩ rfl rfl rfl rfl rfl (by kernel_rfl) Try.func6 (by kernel_rfl)
    (of_decide_eq_true (by kernel_rfl)) (by unfold Func.isWrapper; first | (rw [if_pos (by decide +kernel)]; kernel_rfl) | (rw [if_neg (by decide +kernel)]; exact ⟨rfl, rfl⟩))
    (fun os started H enc _ => lifted os started H enc)

theorem proved : Rows.RightsNeverSaid := over
#print axioms proved
end Go.Proofs.Ytpbjencigepnfaa.rightsNever
