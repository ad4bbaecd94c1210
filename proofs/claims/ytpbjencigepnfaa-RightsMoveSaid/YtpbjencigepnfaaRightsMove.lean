/- For every rights, i, k and n usufructlaw03.RightsMove returns true, and each argument reads as before. No condition. -/
import Derived.Test.YtpbjencigepnfaaRtLaw
import Derived.Test.YtpbjencigepnfaaRtMove
import Derived.WalkKit
import Derived.ProofKit
import Derived.OpenShut
import Derived.ChangeOld
import Derived.Below
namespace Go.Proofs.Ytpbjencigepnfaa.rightsMove
open Go.ChangeShapes Go.WideShapes Go.ChangeAt Go.RowKit
set_option linter.unusedVariables false

theorem own : ownKnob Try.prog.godebug = none := by kernel_rfl
theorem laidOut : laidOutB Try.prog = true := by kernel_rfl

set_option maxHeartbeats 4000000 in
theorem walk (x0 : List Int) (l0 : x0.length = 288) (r0 : ∀ z ∈ x0, (Lit.int .i64 z).wf = true) (a1 : Int) (w1 : (Lit.int .i64 a1).wf = true) (a2 : Int) (w2 : (Lit.int .i64 a2).wf = true) (a3 : Int) (w3 : (Lit.int .i64 a3).wf = true) (w : World) :
    Calls Try.prog 8 #[.agg (vals x0).toArray, .int .i64 a1, .int .i64 a2, .int .i64 a3] w fun e w' => e = .returned (.bool true) ∧ Below w.heap.size w w' := by
  have H2 := Lib.hid (two_segs l0)
  have HR := Lib.hid l0
  have HK := Lib.hid (KeepR.start w)
  go_enter Try.func8, Try.ntmps8
  go_wp2_with (first
    | (with_reducible refine box_new (R := x0) HK.out rfl _ rfl rfl ?_; intro b u hk hb; clear hb; clear HK; have HK := Lib.hid hk; clear hk))
  refine Draws.start (S := fun u => KeepR w [(b, 26, x0)] u) (n := 10) 10 rfl (by kernel_rfl) ?_
  have HS := Lib.hid ((HK.out.drew : (fun u => KeepR w [(b, 26, x0)] u) _))
  refine Draws.take 0 (v := ?v1) HS.out rfl (by kernel_rfl) (fun _ _ _ h => h) (Or.inl ⟨rfl, ?h1⟩) ?r1
  case h1 => intro w' hw'; go_simp; (try with_reducible rfl)
  (try simp only [Act.put, List.setIfInBounds_toArray, List.set_cons_zero, List.set_cons_succ])
  refine Draws.take 1 HS.out rfl (by kernel_rfl) (fun _ _ _ h => h) (yield_part (fun _ h => h) 0 16 Try.underlying23 rfl vec_info rfl _ rfl rfl rfl (by have := HR.out; omega)) ?_
  (try simp only [Act.put, List.setIfInBounds_toArray, List.set_cons_zero, List.set_cons_succ])
  refine Draws.take 2 (v := ?v2) HS.out rfl (by kernel_rfl) (fun _ _ _ h => h) (Or.inl ⟨rfl, ?h2⟩) ?r2
  case h2 => intro w' hw'; go_simp; (try with_reducible rfl)
  (try simp only [Act.put, List.setIfInBounds_toArray, List.set_cons_zero, List.set_cons_succ])
  refine Draws.take 3 HS.out rfl (by kernel_rfl) (fun _ _ _ h => h) (yield_part (fun _ h => h) 0 16 Try.underlying23 rfl vec_info rfl _ rfl rfl rfl (by have := HR.out; omega)) ?_
  (try simp only [Act.put, List.setIfInBounds_toArray, List.set_cons_zero, List.set_cons_succ])
  refine Draws.take 5 (v := ?v3) HS.out rfl (by kernel_rfl) (fun _ _ _ h => h) (Or.inl ⟨rfl, ?h3⟩) ?r3
  case h3 => intro w' hw'; go_simp; (try with_reducible rfl)
  (try simp only [Act.put, List.setIfInBounds_toArray, List.set_cons_zero, List.set_cons_succ])
  refine Draws.take 6 (v := ?v4) HS.out rfl (by kernel_rfl) (fun _ _ _ h => h) (Or.inl ⟨rfl, ?h4⟩) ?r4
  case h4 => intro w' hw'; go_simp; (try with_reducible rfl)
  (try simp only [Act.put, List.setIfInBounds_toArray, List.set_cons_zero, List.set_cons_succ])
  refine Draws.take 9 (v := ?v5) HS.out rfl (by kernel_rfl) (fun _ _ _ h => h) (Or.inl ⟨rfl, ?h5⟩) ?r5
  case h5 => intro w' hw'; go_simp; (try with_reducible rfl)
  (try simp only [Act.put, List.setIfInBounds_toArray, List.set_cons_zero, List.set_cons_succ])
  refine Draws.does 4 rfl (by kernel_rfl) rfl (fun K hK => ?_)
  refine wp_buildv2 HS.out _ _ rfl rfl rfl (seg_length (by have := HR.out; omega)) (seg_length (by have := HR.out; omega)) ?_
  intro b1 u hk hb
  have HX := Lib.hid hk
  refine hK.out _ _ (fun _ => hk.tail) ?_
  clear hK K
  have hs : (fun u => KeepR w [(b, 26, x0)] u) u := hk.tail
  clear HS
  have HS := Lib.hid hs; clear hs
  (try simp only [Act.put, List.setIfInBounds_toArray, List.set_cons_zero, List.set_cons_succ])
  clear hk hb
  obtain ⟨v', u', h1, h2, h3, h4⟩ := append_vecs (w := w) (o := 32) (n := 2) (m := 16) (HX.out.get 0 rfl) (HX.out.blk _ (List.mem_cons_self ..)).1 (by rw [splice_length, splice_length, zer_length]) (HX.out.get 1 rfl) (by have := HR.out; omega) (by omega) HX.out.bel.size 16 46
  have hk := HS.out.grownE h4 (by simp) h3
  rw [H2.out] at h2
  have h5 : u'.ownsRow w.heap.size 23 16 v' 18 (vals x0) := h2
  obtain ⟨b2, c2, rfl, _, hrg⟩ := own_range h5 (by omega)
  have HV := Lib.hid (row_at hrg HR.out)
  have HA := Lib.hid h1
  clear h1 h2 h3 h4 h5 hrg HX
  refine Draws.does 7 rfl (by kernel_rfl) rfl (fun K hK => ?_)
  refine Lib.wp_append_run _ _ _ _ _ rfl _ _ rfl rfl _ _ HA.out ?_
  refine hK.out _ _ (fun _ => hk) ?_
  clear hK K
  have hs : (fun u => KeepR w [(b, 26, x0)] u) u' := hk
  clear HS
  have HS := Lib.hid hs; clear hs
  (try simp only [Act.put, List.setIfInBounds_toArray, List.set_cons_zero, List.set_cons_succ])
  clear hk HK
  refine Draws.take 8 (v := ?v6) HS.out rfl (by kernel_rfl) (fun _ _ _ h => h) (Or.inl ⟨rfl, ?h6⟩) ?r6
  case h6 => intro w' hw'; go_simp; (try with_reducible rfl)
  (try simp only [Act.put, List.setIfInBounds_toArray, List.set_cons_zero, List.set_cons_succ])
  refine Draws.done (by kernel_rfl) ?_
  have hk := HS.out
  clear HS HA
  have HK := Lib.hid hk; clear hk
  go_wp2_with fail
  go_loopw [33] (fun i wr => ∃ k : Nat, k ≤ 18 ∧ i = .int .i64 k ∧ KeepR w [(b, 26, x0)] wr ∧ RowAt wr b2 x0 ∧ ∀ p, p < k * 16 → 0 ≤ x0.getD p 0 ∧ x0.getD p 0 ≤ 1073741824) (fun i _ => 18 - (intOf i).toNat)
  case atStart => exact ⟨0, by omega, rfl, HK.out, HV.out, fun j hj => by omega⟩
  case round =>
    obtain ⟨k, hk0, rfl, hk, hv, hD⟩ := hrel
    clear HK HV
    have HK := Lib.hid hk; have HV := Lib.hid hv; have HD := Lib.hid hD
    clear hk hv hD
    by_cases hlt : k < 18
    · have HL := Lib.hid (seg_length (R := x0) (o := k * 16) (n := 16) (by have := HR.out; omega))
      have i1 : (0 : Int) ≤ (k : Int) := by omega
      have i2 : (k : Int) < 18 := by omega
      have hne := Lib.hid True.intro
      go_wp2_with (first
        | (with_reducible refine alloc_zero HK.out 16 v_zero rfl rfl ?_; intro b4 u hn hk hb; clear hne; have hne := Lib.hid (Nat.ne_of_lt (hn ▸ HV.out.lt)); have hv := HV.out.call hb; clear hb hn HV; have HV := Lib.hid hv; clear hv; clear HK; have HK := Lib.hid hk; clear hk)
        | (with_reducible refine store_all HK.out 0 16 vec_info rfl rfl _ _ rfl rfl rfl rfl HL.out (zer_length 16) ?_; intro u hk hs; have hv := HV.out.other hs hne.out; clear hs HV; have HV := Lib.hid hv; clear hv; simp only [List.set_cons_zero] at hk; clear HK; have HK := Lib.hid hk; clear hk)
        | (with_reducible refine load_row HV.out rfl _ rfl rfl (by have := HR.out; omega) ?_)
        | (with_reducible refine load_all HK.out 0 16 Try.underlying23 rfl vec_info rfl _ rfl rfl rfl HL.out ?_))
      go_loop [38] (fun i => ∃ m : Nat, m ≤ 16 ∧ i = .int .i64 m ∧ ∀ p, p < k * 16 + m → 0 ≤ x0.getD p 0 ∧ x0.getD p 0 ≤ 1073741824) (fun i => 16 - (intOf i).toNat)
      case atStart => exact ⟨0, by omega, rfl, HD.out⟩
      case round =>
        obtain ⟨m, hm, rfl, hE⟩ := hrel
        have HE := Lib.hid hE; clear hE
        by_cases hmt : m < 16
        · have hix : ∀ W : World, (Instr.index 23 (.agg (vals (seg x0 (k * 16) 16)).toArray) (.int .i64 (m : Int))).run Try.prog W = .ok (.int .i64 ((seg x0 (k * 16) 16).getD m 0)) W := fun W => index_vec HL.out hmt W
          rw [seg_get hmt] at hix
          generalize hx : x0.getD (k * 16 + m) 0 = x at hix
          have HX := Lib.hid hx; clear hx
          have j1 : (0 : Int) ≤ (m : Int) := by omega
          have j2 : (m : Int) < 16 := by omega
          by_cases hx0 : x < 0
          · skip
            go_wp2_with (first
              | (go_at_call 17; (with_reducible refine (awake3 _).mono ?_); rintro e u ⟨rfl, hb⟩; have hk := HK.out.call hb; clear hb; clear HK; have HK := Lib.hid hk; clear hk))
            go_ret
            exact ⟨rfl, HK.out.bel⟩
          · by_cases hx1 : 1073741824 < x
            · skip
              go_wp2_with (first
                | (go_at_call 17; (with_reducible refine (awake3 _).mono ?_); rintro e u ⟨rfl, hb⟩; have hk := HK.out.call hb; clear hb; clear HK; have HK := Lib.hid hk; clear hk))
              go_ret
              exact ⟨rfl, HK.out.bel⟩
            · go_wp2_with fail
              go_round
              case rel => exact ⟨m + 1, by omega, by go_num, fun p hp => by
                by_cases e : p = k * 16 + m
                · rw [e, HX.out]; omega
                · exact HE.out p (by omega)⟩
              case measure => simp [intOf]; omega
        · obtain rfl : m = 16 := by omega
          have HF := Lib.hid (fun p (hp : p < (k + 1) * 16) => HE.out p (by omega))
          go_wp2_with fail
          go_roundw
          case rel => exact ⟨k + 1, by omega, by go_num, HK.out.tail, HV.out, HF.out⟩
          case measure => simp [intOf]; omega
    · obtain rfl : k = 18 := by omega
      simp only [show ((18 : Nat) : Int) = 18 from rfl]
      have HB := Lib.hid (fun p (hp : p < 288) => HD.out p (by omega))
      clear HD HV
      have mv := move_any x0 l0 a1 a2 a3
      have hge : Try.prog.eqGuardType Try.prog.depth 26 = false := by kernel_rfl
      by_cases hE : moveE x0 a1 a2 a3 = 0
      · obtain ⟨i, k, rfl, rfl, hi, hk, hik, hn0, hnf, hX⟩ := move_is l0 hE
        rw [hE, hX] at mv
        have HRS := Lib.hid (move_facts l0 HB.out hi hk hik hn0 hnf)
        have hlx : (x0.set (32 + i * 16 + k) (x0.getD (32 + i * 16 + k) 0 + a3)).length = 288 := by rw [List.length_set]; exact l0
        have ov := rover_r (x0.set (32 + i * 16 + k) (x0.getD (32 + i * 16 + k) 0 + a3)) x0 hlx l0
        rw [over_set l0 (by omega) hn0] at ov
        have t1 := total_any x0 l0
        have t2 := total_any (x0.set (32 + i * 16 + k) (x0.getD (32 + i * 16 + k) 0 + a3)) hlx
        rw [tot_move l0 hi hk] at t2
        have HF := Lib.hid (fun j : Nat => free_any x0 l0 (j : Int))
        have HG := Lib.hid (fun j : Nat => free_any (x0.set (32 + i * 16 + k) (x0.getD (32 + i * 16 + k) 0 + a3)) hlx (j : Int))
        generalize x0.set (32 + i * 16 + k) (x0.getD (32 + i * 16 + k) 0 + a3) = X at mv HRS hlx ov t2 HG hX
        generalize sumN (totL x0) = tn at t1 t2
        generalize sumE (totL x0) = te at t1 t2
        have HX := Lib.hid hlx
        clear hE hX hlx l0 r0 w1 w2 w3 hnf
        go_wp2_with (first
          | (with_reducible refine load_all HK.out 0 288 Try.underlying26 rfl r_info rfl _ rfl rfl rfl HR.out ?_)
          | (go_at_call 22; (with_reducible refine (mv _).mono ?_); rintro e u ⟨rfl, hb⟩; have hk := HK.out.call hb; clear hb; clear HK; have HK := Lib.hid hk; clear hk)
          | (with_reducible refine alloc_zero HK.out 288 r_zero rfl rfl ?_; intro b13 u hn hk hb; clear hn hb; clear HK; have HK := Lib.hid hk; clear hk)
          | (with_reducible refine store_all HK.out 0 288 r_info rfl rfl _ _ rfl rfl rfl rfl HX.out (zer_length 288) ?_; intro u hk hs; clear hs; simp only [List.set_cons_zero] at hk; clear HK; have HK := Lib.hid hk; clear hk))
        go_loopw [66] (fun ii wr => ∃ j : Nat, j ≤ 16 ∧ ii = .int .i64 j ∧ KeepR w [(b13, 26, X), (b, 26, x0)] wr) (fun i _ => 16 - (intOf i).toNat)
        case atStart => exact ⟨0, by omega, rfl, HK.out⟩
        case round =>
          obtain ⟨j, hj0, rfl, hkk⟩ := hrel
          clear HK
          have HK := Lib.hid hkk; clear hkk
          by_cases hlt : j < 16
          · obtain ⟨fr, e1, e2, e3, e4, e5, e6⟩ := HRS.out j hlt
            have f1 := HF.out j
            have f2 := HG.out j
            rw [e1, e2] at f1
            rw [e3, e4] at f2
            clear e1 e2 e3 e4
            have c1 : (0 : Int) ≤ (j : Int) := by omega
            have c2 : (j : Int) < 16 := by omega
            by_cases hji : j = i
            · subst hji
              rw [if_pos rfl] at f2
              have q1 : ((j : Int) == (k : Int)) = false := beq_eq_false_iff_ne.2 (by omega)
              have q2 : ((j : Int) != (k : Int)) = true := by simp [bne, q1]
              go_wp2_with (first
                | (with_reducible refine load_all HK.out 1 288 Try.underlying26 rfl r_info rfl _ rfl rfl rfl HR.out ?_)
                | (with_reducible refine load_all HK.out 0 288 Try.underlying26 rfl r_info rfl _ rfl rfl rfl HX.out ?_)
                | (go_at_call 11; (with_reducible refine (f1 _).mono ?_); rintro e u ⟨rfl, hb⟩; have hk := HK.out.call hb; clear hb; clear HK; have HK := Lib.hid hk; clear hk)
                | (go_at_call 11; (with_reducible refine (f2 _).mono ?_); rintro e u ⟨rfl, hb⟩; have hk := HK.out.call hb; clear hb; clear HK; have HK := Lib.hid hk; clear hk))
              go_roundw
              case rel => exact ⟨j + 1, by omega, by go_num, HK.out⟩
              case measure => simp [intOf]; omega
            · rw [if_neg hji] at f2
              have q1 : ((j : Int) == (i : Int)) = false := beq_eq_false_iff_ne.2 (by omega)
              have q2 : ((j : Int) != (i : Int)) = true := by simp [bne, q1]
              by_cases hjk : j = k
              · subst hjk
                rw [if_pos rfl] at f2
                go_wp2_with (first
                  | (with_reducible refine load_all HK.out 1 288 Try.underlying26 rfl r_info rfl _ rfl rfl rfl HR.out ?_)
                  | (with_reducible refine load_all HK.out 0 288 Try.underlying26 rfl r_info rfl _ rfl rfl rfl HX.out ?_)
                  | (go_at_call 11; (with_reducible refine (f1 _).mono ?_); rintro e u ⟨rfl, hb⟩; have hk := HK.out.call hb; clear hb; clear HK; have HK := Lib.hid hk; clear hk)
                  | (go_at_call 11; (with_reducible refine (f2 _).mono ?_); rintro e u ⟨rfl, hb⟩; have hk := HK.out.call hb; clear hb; clear HK; have HK := Lib.hid hk; clear hk))
                go_roundw
                case rel => exact ⟨j + 1, by omega, by go_num, HK.out⟩
                case measure => simp [intOf]; omega
              · rw [if_neg hjk] at f2
                have q3 : ((j : Int) == (k : Int)) = false := beq_eq_false_iff_ne.2 (by omega)
                have q4 : ((j : Int) != (k : Int)) = true := by simp [bne, q3]
                go_wp2_with (first
                  | (with_reducible refine load_all HK.out 1 288 Try.underlying26 rfl r_info rfl _ rfl rfl rfl HR.out ?_)
                  | (with_reducible refine load_all HK.out 0 288 Try.underlying26 rfl r_info rfl _ rfl rfl rfl HX.out ?_)
                  | (go_at_call 11; (with_reducible refine (f1 _).mono ?_); rintro e u ⟨rfl, hb⟩; have hk := HK.out.call hb; clear hb; clear HK; have HK := Lib.hid hk; clear hk)
                  | (go_at_call 11; (with_reducible refine (f2 _).mono ?_); rintro e u ⟨rfl, hb⟩; have hk := HK.out.call hb; clear hb; clear HK; have HK := Lib.hid hk; clear hk))
                go_roundw
                case rel => exact ⟨j + 1, by omega, by go_num, HK.out⟩
                case measure => simp [intOf]; omega
          · obtain rfl : j = 16 := by omega
            go_wp2_with (first
              | (with_reducible refine load_all HK.out 1 288 Try.underlying26 rfl r_info rfl _ rfl rfl rfl HR.out ?_)
              | (with_reducible refine load_all HK.out 0 288 Try.underlying26 rfl r_info rfl _ rfl rfl rfl HX.out ?_)
              | (refine load_all_want HK.out 1 288 Try.underlying26 rfl r_info _ rfl rfl rfl rfl HR.out ?_)
              | (refine load_all_want HK.out 0 288 Try.underlying26 rfl r_info _ rfl rfl rfl rfl HX.out ?_)
              | (go_at_call 13; (with_reducible refine (t1 _).mono ?_); rintro e u ⟨rfl, hb⟩; have hk := HK.out.call hb; clear hb; clear HK; have HK := Lib.hid hk; clear hk)
              | (go_at_call 13; (with_reducible refine (t2 _).mono ?_); rintro e u ⟨rfl, hb⟩; have hk := HK.out.call hb; clear hb; clear HK; have HK := Lib.hid hk; clear hk)
              | (go_at_call 26; (with_reducible refine (ov _).mono ?_); rintro e u ⟨rfl, hb⟩; have hk := HK.out.call hb; clear hb; clear HK; have HK := Lib.hid hk; clear hk)
              | (go_at_call 17; (with_reducible refine (awake3 _).mono ?_); rintro e u ⟨rfl, hb⟩; have hk := HK.out.call hb; clear hb; clear HK; have HK := Lib.hid hk; clear hk))
            go_ret
            exact ⟨rfl, HK.out.bel⟩
      · have hz := move_else (R := x0) hE
        rw [hz] at mv
        have q := eql_r (zer 288) (zer 288) (zer_length 288) (zer_length 288)
        rw [beq_self_eq_true] at q
        generalize moveE x0 a1 a2 a3 = e at hE mv
        clear hz l0 r0 w1 w2 w3
        go_wp2_with (first
          | (with_reducible refine load_all HK.out 0 288 Try.underlying26 rfl r_info rfl _ rfl rfl rfl HR.out ?_)
          | (with_reducible refine build_zero 288 r_build rfl rfl ?_)
          | (go_at_call 22; (with_reducible refine (mv _).mono ?_); rintro e u ⟨rfl, hb⟩; have hk := HK.out.call hb; clear hb; clear HK; have HK := Lib.hid hk; clear hk)
          | (with_reducible refine alloc_zero HK.out 288 r_zero rfl rfl ?_; intro b13 u hn hk hb; clear hn hb; clear HK; have HK := Lib.hid hk; clear hk)
          | (with_reducible refine store_all HK.out 0 288 r_info rfl rfl _ _ rfl rfl rfl rfl (zer_length 288) (zer_length 288) ?_; intro u hk hs; clear hs; simp only [List.set_cons_zero] at hk; clear HK; have HK := Lib.hid hk; clear hk)
          | (with_reducible refine load_all HK.out 0 288 Try.underlying26 rfl r_info rfl _ rfl rfl rfl (zer_length 288) ?_)
          | (go_at_call 17; (with_reducible refine (awake3 _).mono ?_); rintro e u ⟨rfl, hb⟩; have hk := HK.out.call hb; clear hb; clear HK; have HK := Lib.hid hk; clear hk))
        go_ret
        exact ⟨rfl, HK.out.bel⟩

set_option maxRecDepth 100000 in
theorem lifted (os : Os) (started : os.Started) (H : Type) (enc : TypeId × Value → H) :
    ReturnsInHanded {} Try.checked os 8 .any (Rows.rightsMoveSpec.pre6 enc Try.prog Try.f8 Rows.rightsMoveRow.domain false) (Rows.rightsMoveSpec.post enc Try.prog Try.f8 false true false false) := by
  refine returnsInHanded_of_change (C := Try.checked) own started (by kernel_rfl) Try.func8
    (ChangeSpec.witness6 (enc := enc) (C := Try.checked) false ⟨#[], #[.agg (vals (zer 288)).toArray, .int .i64 0, .int .i64 0, .int .i64 0], []⟩ 12 (by kernel_rfl) (by kernel_rfl) (by kernel_rfl) (by kernel_rfl)) ?_
  intro W base args ds gs before hval0 hW hcnd _
  have hval : ∀ (j : Nat) t v, Try.f8.params[j]? = some t → args[j]? = some v → Value.okWide Try.prog W .any base t v := hval0
  have hW' := hW
  obtain ⟨p, q, hA0, hV, rfl, hfz, hnd⟩ := hW
  have hA : DataW.TrodAll enc Try.prog W 0 (fun _ => true) true Try.f8.params.toList args.toList ds p := hA0
  rw [Try.params8] at hA hval
  obtain ⟨v0, vs0, d0, ds0, p0, q0, hargs, rfl, rfl, h0, r0⟩ := trodAll_cons hA
  obtain ⟨v1, vs1, d1, ds1, p1, q1, rfl, rfl, rfl, h1, r1⟩ := trodAll_cons r0
  obtain ⟨v2, vs2, d2, ds2, p2, q2, rfl, rfl, rfl, h2, r2⟩ := trodAll_cons r1
  obtain ⟨v3, vs3, d3, ds3, p3, q3, rfl, rfl, rfl, h3, r3⟩ := trodAll_cons r2
  obtain ⟨rfl, rfl, rfl⟩ := trodAll_nil r3
  obtain rfl : args = #[v0, v1, v2, v3] := by cases args; simp_all
  obtain ⟨rfl, rfl⟩ := trodVars_none hV
  have k0 := h0
  have lt0 : ∀ x ∈ p0, x.block < W.heap.size := by obtain ⟨m, hm⟩ := k0; exact DataW.trod_lt m _ _ _ hm
  obtain ⟨x0, rfl, l0, z0⟩ := open_r (hval 0 26 v0 rfl rfl) h0
  have k1 := h1
  have lt1 : ∀ x ∈ p1, x.block < W.heap.size := by obtain ⟨m, hm⟩ := k1; exact DataW.trod_lt m _ _ _ hm
  obtain ⟨a1, rfl, rfl, rfl, w1⟩ := open_int Try.underlying3 (hval 1 3 v1 rfl rfl) h1
  have k2 := h2
  have lt2 : ∀ x ∈ p2, x.block < W.heap.size := by obtain ⟨m, hm⟩ := k2; exact DataW.trod_lt m _ _ _ hm
  obtain ⟨a2, rfl, rfl, rfl, w2⟩ := open_int Try.underlying3 (hval 2 3 v2 rfl rfl) h2
  have k3 := h3
  have lt3 : ∀ x ∈ p3, x.block < W.heap.size := by obtain ⟨m, hm⟩ := k3; exact DataW.trod_lt m _ _ _ hm
  obtain ⟨a3, rfl, rfl, rfl, w3⟩ := open_int Try.underlying3 (hval 3 3 v3 rfl rfl) h3
  clear hA0 hval0
  refine (walk x0 l0 z0 a1 w1 a2 w2 a3 w3 W).mono fun e W' ⟨he, bel⟩ => ?_
  subst he
  exact ⟨_, rfl, _, _, _, [], _, [], hW', trodAll_mk1 (shut_bool Try.underlying4 _), (trodAll_cons_mk (Below.trod laidOut (by kernel_rfl) (of_decide_eq_true (by kernel_rfl)) k0 bel lt0) (trodAll_cons_mk (Below.trod laidOut (by kernel_rfl) (of_decide_eq_true (by kernel_rfl)) k1 bel lt1) (trodAll_cons_mk (Below.trod laidOut (by kernel_rfl) (of_decide_eq_true (by kernel_rfl)) k2 bel lt2) (trodAll_cons_mk (Below.trod laidOut (by kernel_rfl) (of_decide_eq_true (by kernel_rfl)) k3 bel lt3) trodAll_mk0)))), rfl, bel.frame _, fun h => by cases h⟩

theorem over : Rows.rightsMoveRow.holds Try.pinned (OpenSpec.ofChange Rows.rightsMoveSpec) :=
  OpenClaim.holds_of_wide 8 Try.f8 rfl rfl rfl rfl rfl rfl rfl ⟨rfl, rfl, rfl, rfl, rfl⟩ rfl rfl rfl rfl rfl (by kernel_rfl) Try.func8 (by kernel_rfl)
    (of_decide_eq_true (by kernel_rfl)) (by unfold Func.isWrapper; first | (rw [if_pos (by decide +kernel)]; kernel_rfl) | (rw [if_neg (by decide +kernel)]; exact ⟨rfl, rfl⟩))
    (fun os started H enc _ => lifted os started H enc)

theorem proved : Rows.RightsMoveSaid := over
#print axioms proved
end Go.Proofs.Ytpbjencigepnfaa.rightsMove
