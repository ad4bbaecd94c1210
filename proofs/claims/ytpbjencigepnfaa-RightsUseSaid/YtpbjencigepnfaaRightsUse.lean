/- For every rights, k and n usufructlaw03.RightsUse returns true, and each argument reads as before. No condition. -/
import Derived.Test.YtpbjencigepnfaaRtLaw
import Derived.Test.YtpbjencigepnfaaRtTurn
import Derived.WalkKit
import Derived.ProofKit
import Derived.OpenShut
import Derived.ChangeOld
import Derived.Below
namespace Go.Proofs.Ytpbjencigepnfaa.rightsUse
open Go.ChangeShapes Go.WideShapes Go.ChangeAt Go.RowKit
set_option linter.unusedVariables false

theorem own : ownKnob Try.prog.godebug = none := by kernel_rfl
theorem laidOut : laidOutB Try.prog = true := by kernel_rfl

set_option maxRecDepth 100000 in
set_option maxHeartbeats 4000000 in
theorem walk (x0 : List Int) (l0 : x0.length = 288) (r0 : ∀ z ∈ x0, (Lit.int .i64 z).wf = true) (a1 : Int) (w1 : (Lit.int .i64 a1).wf = true) (a2 : Int) (w2 : (Lit.int .i64 a2).wf = true) (w : World) :
    Calls Try.prog 9 #[.agg (vals x0).toArray, .int .i64 a1, .int .i64 a2] w fun e w' => e = .returned (.bool true) ∧ Below w.heap.size w w' := by
  have H2 := Lib.hid (two_segs l0)
  have HR := Lib.hid l0
  have HK := Lib.hid (KeepR.start w)
  go_enter Try.func9, Try.ntmps9
  go_wp2_with (first
    | (with_reducible refine box_new (R := x0) HK.out rfl _ rfl rfl ?_; intro b u hk hb; clear hb; clear HK; have HK := Lib.hid hk; clear hk))
  refine Draws.start (S := fun u => KeepR w [(b, 26, x0)] u) (n := 10) 10 rfl (by kernel_rfl) ?_
  have HS := Lib.hid ((HK.out.drew : (fun u => KeepR w [(b, 26, x0)] u) _))
  refine Draws.take 0 (v := ?v1) HS.out rfl (by kernel_rfl) (fun _ _ _ h => h) (Or.inl ⟨rfl, ?h1⟩) ?r1
  case h1 => intro w' hw'; go_simp; (try with_reducible rfl)
  (try simp only [Act.put, List.setIfInBounds_toArray, List.set_cons_zero, List.set_cons_succ])
  refine Draws.take 1 HS.out rfl (by kernel_rfl) (fun _ _ _ h => h) (yield_part (fun _ h => h) 0 16 Try.underlying23 rfl vec_info rfl _ rfl rfl rfl (by have := HR.out; omega)) ?_
  (try simp only [Act.put, List.setIfInBounds_toArray, List.set_cons_zero, List.set_cons_succ])
  refine Draws.take 2 (v := ?v2) HS.out rfl (by kernel_rfl) (fun _ _ _ h => h) (Or.inl ⟨rfl, ?h2⟩) ?r2
  case h2 => intro w' hw'; go_simp; (try with_reducible rfl)
  (try simp only [Act.put, List.setIfInBounds_toArray, List.set_cons_zero, List.set_cons_succ])
  refine Draws.take 3 HS.out rfl (by kernel_rfl) (fun _ _ _ h => h) (yield_part (fun _ h => h) 0 16 Try.underlying23 rfl vec_info rfl _ rfl rfl rfl (by have := HR.out; omega)) ?_
  (try simp only [Act.put, List.setIfInBounds_toArray, List.set_cons_zero, List.set_cons_succ])
  refine Draws.take 5 (v := ?v3) HS.out rfl (by kernel_rfl) (fun _ _ _ h => h) (Or.inl ⟨rfl, ?h3⟩) ?r3
  case h3 => intro w' hw'; go_simp; (try with_reducible rfl)
  (try simp only [Act.put, List.setIfInBounds_toArray, List.set_cons_zero, List.set_cons_succ])
  refine Draws.take 6 (v := ?v4) HS.out rfl (by kernel_rfl) (fun _ _ _ h => h) (Or.inl ⟨rfl, ?h4⟩) ?r4
  case h4 => intro w' hw'; go_simp; (try with_reducible rfl)
  (try simp only [Act.put, List.setIfInBounds_toArray, List.set_cons_zero, List.set_cons_succ])
  refine Draws.take 9 (v := ?v5) HS.out rfl (by kernel_rfl) (fun _ _ _ h => h) (Or.inl ⟨rfl, ?h5⟩) ?r5
  case h5 => intro w' hw'; go_simp; (try with_reducible rfl)
  (try simp only [Act.put, List.setIfInBounds_toArray, List.set_cons_zero, List.set_cons_succ])
  refine Draws.does 4 rfl (by kernel_rfl) rfl (fun K hK => ?_)
  refine wp_buildv2 HS.out _ _ rfl rfl rfl (seg_length (by have := HR.out; omega)) (seg_length (by have := HR.out; omega)) ?_
  intro b1 u hk hb
  have HX := Lib.hid hk
  refine hK.out _ _ (fun _ => hk.tail) ?_
  clear hK K
  have hs : (fun u => KeepR w [(b, 26, x0)] u) u := hk.tail
  clear HS
  have HS := Lib.hid hs; clear hs
  (try simp only [Act.put, List.setIfInBounds_toArray, List.set_cons_zero, List.set_cons_succ])
  clear hk hb
  obtain ⟨v', u', h1, h2, h3, h4⟩ := append_vecs (w := w) (o := 32) (n := 2) (m := 16) (HX.out.get 0 rfl) (HX.out.blk _ (List.mem_cons_self ..)).1 (by rw [splice_length, splice_length, zer_length]) (HX.out.get 1 rfl) (by have := HR.out; omega) (by omega) HX.out.bel.size 16 46
  have hk := HS.out.grownE h4 (by simp) h3
  rw [H2.out] at h2
  have h5 : u'.ownsRow w.heap.size 23 16 v' 18 (vals x0) := h2
  obtain ⟨b2, c2, rfl, _, hrg⟩ := own_range h5 (by omega)
  have HV := Lib.hid (row_at hrg HR.out)
  have HA := Lib.hid h1
  clear h1 h2 h3 h4 h5 hrg HX
  refine Draws.does 7 rfl (by kernel_rfl) rfl (fun K hK => ?_)
  refine Lib.wp_append_run _ _ _ _ _ rfl _ _ rfl rfl _ _ HA.out ?_
  refine hK.out _ _ (fun _ => hk) ?_
  clear hK K
  have hs : (fun u => KeepR w [(b, 26, x0)] u) u' := hk
  clear HS
  have HS := Lib.hid hs; clear hs
  (try simp only [Act.put, List.setIfInBounds_toArray, List.set_cons_zero, List.set_cons_succ])
  clear hk HK
  refine Draws.take 8 (v := ?v6) HS.out rfl (by kernel_rfl) (fun _ _ _ h => h) (Or.inl ⟨rfl, ?h6⟩) ?r6
  case h6 => intro w' hw'; go_simp; (try with_reducible rfl)
  (try simp only [Act.put, List.setIfInBounds_toArray, List.set_cons_zero, List.set_cons_succ])
  refine Draws.done (by kernel_rfl) ?_
  have hk := HS.out
  clear HS HA
  have HK := Lib.hid hk; clear hk
  go_wp2_with fail
  go_loopw [34] (fun i wr => ∃ k : Nat, k ≤ 18 ∧ i = .int .i64 k ∧ KeepR w [(b, 26, x0)] wr ∧ RowAt wr b2 x0 ∧ ∀ p, p < k * 16 → 0 ≤ x0.getD p 0 ∧ x0.getD p 0 ≤ 1073741824) (fun i _ => 18 - (intOf i).toNat)
  case atStart => exact ⟨0, by omega, rfl, HK.out, HV.out, fun j hj => by omega⟩
  case round =>
    obtain ⟨k, hk0, rfl, hk, hv, hD⟩ := hrel
    clear HK HV
    have HK := Lib.hid hk; have HV := Lib.hid hv; have HD := Lib.hid hD
    clear hk hv hD
    by_cases hlt : k < 18
    · have HL := Lib.hid (seg_length (R := x0) (o := k * 16) (n := 16) (by have := HR.out; omega))
      have i1 : (0 : Int) ≤ (k : Int) := by omega
      have i2 : (k : Int) < 18 := by omega
      have hne := Lib.hid True.intro
      go_wp2_with (first
        | (with_reducible refine alloc_zero HK.out 16 v_zero rfl rfl ?_; intro b4 u hn hk hb; clear hne; have hne := Lib.hid (Nat.ne_of_lt (hn ▸ HV.out.lt)); have hv := HV.out.call hb; clear hb hn HV; have HV := Lib.hid hv; clear hv; clear HK; have HK := Lib.hid hk; clear hk)
        | (with_reducible refine store_all HK.out 0 16 vec_info rfl rfl _ _ rfl rfl rfl rfl HL.out (zer_length 16) ?_; intro u hk hs; have hv := HV.out.other hs hne.out; clear hs HV; have HV := Lib.hid hv; clear hv; simp only [List.set_cons_zero] at hk; clear HK; have HK := Lib.hid hk; clear hk)
        | (with_reducible refine load_row HV.out rfl _ rfl rfl (by have := HR.out; omega) ?_)
        | (with_reducible refine load_all HK.out 0 16 Try.underlying23 rfl vec_info rfl _ rfl rfl rfl HL.out ?_))
      go_loop [39] (fun i => ∃ m : Nat, m ≤ 16 ∧ i = .int .i64 m ∧ ∀ p, p < k * 16 + m → 0 ≤ x0.getD p 0 ∧ x0.getD p 0 ≤ 1073741824) (fun i => 16 - (intOf i).toNat)
      case atStart => exact ⟨0, by omega, rfl, HD.out⟩
      case round =>
        obtain ⟨m, hm, rfl, hE⟩ := hrel
        have HE := Lib.hid hE; clear hE
        by_cases hmt : m < 16
        · have hix : ∀ W : World, (Instr.index 23 (.agg (vals (seg x0 (k * 16) 16)).toArray) (.int .i64 (m : Int))).run Try.prog W = .ok (.int .i64 ((seg x0 (k * 16) 16).getD m 0)) W := fun W => index_vec HL.out hmt W
          rw [seg_get hmt] at hix
          generalize hx : x0.getD (k * 16 + m) 0 = x at hix
          have HX := Lib.hid hx; clear hx
          have j1 : (0 : Int) ≤ (m : Int) := by omega
          have j2 : (m : Int) < 16 := by omega
          by_cases hx0 : x < 0
          · skip
            go_wp2_with (first
              | (go_at_call 17; (with_reducible refine (awake3 _).mono ?_); rintro e u ⟨rfl, hb⟩; have hk := HK.out.call hb; clear hb; clear HK; have HK := Lib.hid hk; clear hk))
            go_ret
            exact ⟨rfl, HK.out.bel⟩
          · by_cases hx1 : 1073741824 < x
            · skip
              go_wp2_with (first
                | (go_at_call 17; (with_reducible refine (awake3 _).mono ?_); rintro e u ⟨rfl, hb⟩; have hk := HK.out.call hb; clear hb; clear HK; have HK := Lib.hid hk; clear hk))
              go_ret
              exact ⟨rfl, HK.out.bel⟩
            · go_wp2_with fail
              go_round
              case rel => exact ⟨m + 1, by omega, by go_num, fun p hp => by
                by_cases e : p = k * 16 + m
                · rw [e, HX.out]; omega
                · exact HE.out p (by omega)⟩
              case measure => simp [intOf]; omega
        · obtain rfl : m = 16 := by omega
          have HF := Lib.hid (fun p (hp : p < (k + 1) * 16) => HE.out p (by omega))
          go_wp2_with fail
          go_roundw
          case rel => exact ⟨k + 1, by omega, by go_num, HK.out.tail, HV.out, HF.out⟩
          case measure => simp [intOf]; omega
    · obtain rfl : k = 18 := by omega
      simp only [show ((18 : Nat) : Int) = 18 from rfl]
      have HB := Lib.hid (fun p (hp : p < 288) => HD.out p (by omega))
      clear HD HV
      have t1 := total_any x0 l0
      have u1 := use_any x0 l0 a1 a2
      have g1 := give_any x0 l0 a1 a2
      have hEU := useA_else (R := x0) (k := a1) (n := a2)
      have HIU := Lib.hid (fun h => use_is (k := a1) (n := a2) l0 h)
      have HIG := Lib.hid (fun h => give_is (k := a1) (n := a2) l0 h)
      have HEU := Lib.hid hEU; clear hEU
      have HEG := Lib.hid (fun h => grA_no (R := x0) (o := 0) (k := a1) (n := a2) h)
      have HTF := Lib.hid (fun p k s (hk : k < 16) hp hn => turn_facts (n := a2) l0 HB.out (p := p) (k := k) (s := s) hk hp hn)
      have HTB := Lib.hid ((turn_facts (n := 0) l0 HB.out (p := 0) (k := 0) (s := 0) (by omega) (.inl ⟨rfl, rfl⟩) (isB_iff.2 (by have := HB.out 0 (by omega); omega))).2.2)
      have HFR := Lib.hid (fun j : Nat => free_any x0 l0 (j : Int))
      have HUA := Lib.hid u1; have HGA := Lib.hid g1
      clear u1 g1
      have HU0 := Lib.hid True.intro
      generalize hten : sumN (totL x0) = tn at t1
      have HTN := Lib.hid hten; clear hten
      generalize sumE (totL x0) = te at t1
      have tb1 : -18253611008 ≤ tn := by have := HTB.out; have := HTN.out; omega
      have tb2 : tn ≤ 18253611008 := by have := HTB.out; have := HTN.out; omega
      have L0 := Lib.hid l0
      clear l0 r0 w1 w2
      go_wp2_with (first
        | (with_reducible refine load_all HK.out 0 288 Try.underlying26 rfl r_info rfl _ rfl rfl rfl HR.out ?_)
        | (go_at_call 13; (with_reducible refine (t1 _).mono ?_); rintro e u ⟨rfl, hb⟩; have hk := HK.out.call hb; clear hb; clear HK; have HK := Lib.hid hk; clear hk)
        | (with_reducible refine build_funs rfl rfl ?_; intro bF u hf hb; clear HU0; have HU0 := Lib.hid hf; have hk := HK.out.call hb; clear hf hb; clear HK; have HK := Lib.hid hk; clear hk))
      go_loopw [58] (fun ii wr => ∃ k : Nat, k ≤ 2 ∧ ii = .int .i64 k ∧ KeepR w [(b, 26, x0)] wr ∧ FunAt wr bF) (fun i _ => 2 - (intOf i).toNat)
      case atStart => exact ⟨0, by omega, rfl, HK.out, HU0.out⟩
      case round =>
        obtain ⟨tk, htk, rfl, hk, hf⟩ := hrel
        clear HK HU0
        have HK := Lib.hid hk; have HU0 := Lib.hid hf
        have f0 := hf.c0; have f1 := hf.c1
        clear hk hf
        have hne := Lib.hid True.intro
        by_cases h2 : tk = 2
        · subst h2
          go_wp2_with (first
            | (go_at_call 17; (with_reducible refine (awake3 _).mono ?_); rintro e u ⟨rfl, hb⟩; have hk := HK.out.call hb; clear hb; clear HK; have HK := Lib.hid hk; clear hk))
          go_ret
          exact ⟨rfl, HK.out.bel⟩
        · by_cases h0 : tk = 0
          · subst h0
            simp only [Int.natCast_zero]
            by_cases hE : useE x0 a1 a2 = 0
            · obtain ⟨k, rfl, hk, hn0, hn1, hnb, hX⟩ := HIU.out hE
              have hc := HUA.out
              rw [hE, hX] at hc
              obtain ⟨hRS, hTT, _⟩ := HTF.out (16 + k) k (-a2) hk (.inr ⟨rfl, rfl⟩) hnb
              have hlx : (x0.set (16 + k) (x0.getD (16 + k) 0 + a2)).length = 288 := by rw [List.length_set]; exact L0.out
              have ov := rover_r (x0.set (16 + k) (x0.getD (16 + k) 0 + a2)) x0 hlx L0.out
              rw [over_set L0.out (by omega) hn0] at ov
              have t2 := total_any (x0.set (16 + k) (x0.getD (16 + k) 0 + a2)) hlx
              have HG := Lib.hid (fun j : Nat => free_any (x0.set (16 + k) (x0.getD (16 + k) 0 + a2)) hlx (j : Int))
              rw [HTN.out] at hTT
              have HRS := Lib.hid hRS; clear hRS
              have HTT := Lib.hid hTT; clear hTT
              clear hnb
              generalize x0.set (16 + k) (x0.getD (16 + k) 0 + a2) = X at hc HRS hlx ov t2 HG hX HTT
              have HX := Lib.hid hlx
              clear hE hX hlx HIU HIG HEU HEG HTF
              go_wp2_with (first
                | (with_reducible refine load_all HK.out 0 288 Try.underlying26 rfl r_info rfl _ rfl rfl rfl HR.out ?_)
                | (go_at_call 20; (with_reducible refine (hc _).mono ?_); rintro e u ⟨rfl, hb⟩; have hk := HK.out.call hb; have hf := HU0.out.call hb; clear hb HU0; have HU0 := Lib.hid hf; clear hf; clear HK; have HK := Lib.hid hk; clear hk)
                | (with_reducible refine alloc_zero HK.out 288 r_zero rfl rfl ?_; intro b15 u hn hk hb; clear hne; have hne := Lib.hid (Nat.ne_of_lt (hn ▸ HU0.out.lt)); have hf := HU0.out.call hb; clear hb hn HU0; have HU0 := Lib.hid hf; clear hf; clear HK; have HK := Lib.hid hk; clear hk)
                | (with_reducible refine store_all HK.out 0 288 r_info rfl rfl _ _ rfl rfl rfl rfl HX.out (zer_length 288) ?_; intro u hk hs; have hf := HU0.out.other hs hne.out; clear hs HU0; have HU0 := Lib.hid hf; clear hf; simp only [List.set_cons_zero] at hk; clear HK; have HK := Lib.hid hk; clear hk))
              go_loopw [78] (fun ii wr => ∃ j : Nat, j ≤ 16 ∧ ii = .int .i64 j ∧ KeepR w [(b15, 26, X), (b, 26, x0)] wr ∧ FunAt wr bF) (fun i _ => 16 - (intOf i).toNat)
              case atStart => exact ⟨0, by omega, rfl, HK.out, HU0.out⟩
              case round =>
                obtain ⟨j, hj0, rfl, hkk, hf⟩ := hrel
                clear HK HU0
                have HK := Lib.hid hkk; have HU0 := Lib.hid hf; clear hkk hf
                clear f0 f1
                by_cases hlt : j < 16
                · obtain ⟨fr, e1, e2, e3, e5⟩ := HRS.out j hlt
                  have f1 := HFR.out j
                  have f2 := HG.out j
                  rw [e1, e2] at f1
                  generalize freeE X (j : Int) = fe at e3 f2
                  generalize freeN X (j : Int) = fx at e3 f2
                  clear e1 e2
                  have c1 : (0 : Int) ≤ (j : Int) := by omega
                  have c2 : (j : Int) < 16 := by omega
                  have g1 : -18253611008 ≤ fr := e5.1
                  have g2 : fr ≤ 18253611008 := e5.2
                  clear e5
                  by_cases hjk : j = k
                  · subst hjk
                    by_cases hfe : fe = 0
                    · subst hfe
                      obtain rfl : fx = fr + (-a2) := by have := e3 rfl; rw [if_pos rfl] at this; exact this
                      clear e3
                      go_wp2_with (first
                        | (with_reducible refine load_all HK.out 1 288 Try.underlying26 rfl r_info rfl _ rfl rfl rfl HR.out ?_)
                        | (with_reducible refine load_all HK.out 0 288 Try.underlying26 rfl r_info rfl _ rfl rfl rfl HX.out ?_)
                        | (go_at_call 11; (with_reducible refine (f1 _).mono ?_); rintro e u ⟨rfl, hb⟩; have hk := HK.out.call hb; have hf := HU0.out.call hb; clear hb HU0; have HU0 := Lib.hid hf; clear hf; clear HK; have HK := Lib.hid hk; clear hk)
                        | (go_at_call 11; (with_reducible refine (f2 _).mono ?_); rintro e u ⟨rfl, hb⟩; have hk := HK.out.call hb; have hf := HU0.out.call hb; clear hb HU0; have HU0 := Lib.hid hf; clear hf; clear HK; have HK := Lib.hid hk; clear hk))
                      go_roundw
                      case rel => exact ⟨j + 1, by omega, by go_num, HK.out, HU0.out⟩
                      case measure => simp [intOf]; omega
                    · clear e3
                      go_wp2_with (first
                        | (with_reducible refine load_all HK.out 1 288 Try.underlying26 rfl r_info rfl _ rfl rfl rfl HR.out ?_)
                        | (with_reducible refine load_all HK.out 0 288 Try.underlying26 rfl r_info rfl _ rfl rfl rfl HX.out ?_)
                        | (go_at_call 11; (with_reducible refine (f1 _).mono ?_); rintro e u ⟨rfl, hb⟩; have hk := HK.out.call hb; have hf := HU0.out.call hb; clear hb HU0; have HU0 := Lib.hid hf; clear hf; clear HK; have HK := Lib.hid hk; clear hk)
                        | (go_at_call 11; (with_reducible refine (f2 _).mono ?_); rintro e u ⟨rfl, hb⟩; have hk := HK.out.call hb; have hf := HU0.out.call hb; clear hb HU0; have HU0 := Lib.hid hf; clear hf; clear HK; have HK := Lib.hid hk; clear hk))
                      go_roundw
                      case rel => exact ⟨j + 1, by omega, by go_num, HK.out, HU0.out⟩
                      case measure => simp [intOf]; omega
                  · have q1 : ((j : Int) == (k : Int)) = false := beq_eq_false_iff_ne.2 (by omega)
                    have q2 : ((j : Int) != (k : Int)) = true := by simp [bne, q1]
                    by_cases hfe : fe = 0
                    · subst hfe
                      obtain rfl : fx = fr := by have := e3 rfl; rw [if_neg hjk] at this; exact this
                      clear e3
                      go_wp2_with (first
                        | (with_reducible refine load_all HK.out 1 288 Try.underlying26 rfl r_info rfl _ rfl rfl rfl HR.out ?_)
                        | (with_reducible refine load_all HK.out 0 288 Try.underlying26 rfl r_info rfl _ rfl rfl rfl HX.out ?_)
                        | (go_at_call 11; (with_reducible refine (f1 _).mono ?_); rintro e u ⟨rfl, hb⟩; have hk := HK.out.call hb; have hf := HU0.out.call hb; clear hb HU0; have HU0 := Lib.hid hf; clear hf; clear HK; have HK := Lib.hid hk; clear hk)
                        | (go_at_call 11; (with_reducible refine (f2 _).mono ?_); rintro e u ⟨rfl, hb⟩; have hk := HK.out.call hb; have hf := HU0.out.call hb; clear hb HU0; have HU0 := Lib.hid hf; clear hf; clear HK; have HK := Lib.hid hk; clear hk))
                      go_roundw
                      case rel => exact ⟨j + 1, by omega, by go_num, HK.out, HU0.out⟩
                      case measure => simp [intOf]; omega
                    · clear e3
                      go_wp2_with (first
                        | (with_reducible refine load_all HK.out 1 288 Try.underlying26 rfl r_info rfl _ rfl rfl rfl HR.out ?_)
                        | (with_reducible refine load_all HK.out 0 288 Try.underlying26 rfl r_info rfl _ rfl rfl rfl HX.out ?_)
                        | (go_at_call 11; (with_reducible refine (f1 _).mono ?_); rintro e u ⟨rfl, hb⟩; have hk := HK.out.call hb; have hf := HU0.out.call hb; clear hb HU0; have HU0 := Lib.hid hf; clear hf; clear HK; have HK := Lib.hid hk; clear hk)
                        | (go_at_call 11; (with_reducible refine (f2 _).mono ?_); rintro e u ⟨rfl, hb⟩; have hk := HK.out.call hb; have hf := HU0.out.call hb; clear hb HU0; have HU0 := Lib.hid hf; clear hf; clear HK; have HK := Lib.hid hk; clear hk))
                      go_roundw
                      case rel => exact ⟨j + 1, by omega, by go_num, HK.out, HU0.out⟩
                      case measure => simp [intOf]; omega
                · obtain rfl : j = 16 := by omega
                  have hTT := HTT.out
                  generalize sumE (totL X) = se at hTT t2
                  generalize sumN (totL X) = sn at hTT t2
                  by_cases hse : se = 0
                  · subst hse
                    obtain rfl : sn = tn + (-a2) := hTT rfl
                    clear hTT
                    go_wp2_with (first
                      | (with_reducible refine load_all HK.out 0 288 Try.underlying26 rfl r_info rfl _ rfl rfl rfl HX.out ?_)
                      | (refine load_all_want HK.out 1 288 Try.underlying26 rfl r_info _ rfl rfl rfl rfl HR.out ?_)
                      | (refine load_all_want HK.out 0 288 Try.underlying26 rfl r_info _ rfl rfl rfl rfl HX.out ?_)
                      | (go_at_call 13; (with_reducible refine (t2 _).mono ?_); rintro e u ⟨rfl, hb⟩; have hk := HK.out.call hb; have hf := HU0.out.call hb; clear hb HU0; have HU0 := Lib.hid hf; clear hf; clear HK; have HK := Lib.hid hk; clear hk)
                      | (go_at_call 26; (with_reducible refine (ov _).mono ?_); rintro e u ⟨rfl, hb⟩; have hk := HK.out.call hb; have hf := HU0.out.call hb; clear hb HU0; have HU0 := Lib.hid hf; clear hf; clear HK; have HK := Lib.hid hk; clear hk))
                    go_roundw
                    case rel => exact ⟨0 + 1, by omega, by go_num, HK.out.tail, HU0.out⟩
                    case measure => simp [intOf]
                  · clear hTT
                    go_wp2_with (first
                      | (with_reducible refine load_all HK.out 0 288 Try.underlying26 rfl r_info rfl _ rfl rfl rfl HX.out ?_)
                      | (refine load_all_want HK.out 1 288 Try.underlying26 rfl r_info _ rfl rfl rfl rfl HR.out ?_)
                      | (refine load_all_want HK.out 0 288 Try.underlying26 rfl r_info _ rfl rfl rfl rfl HX.out ?_)
                      | (go_at_call 13; (with_reducible refine (t2 _).mono ?_); rintro e u ⟨rfl, hb⟩; have hk := HK.out.call hb; have hf := HU0.out.call hb; clear hb HU0; have HU0 := Lib.hid hf; clear hf; clear HK; have HK := Lib.hid hk; clear hk)
                      | (go_at_call 26; (with_reducible refine (ov _).mono ?_); rintro e u ⟨rfl, hb⟩; have hk := HK.out.call hb; have hf := HU0.out.call hb; clear hb HU0; have HU0 := Lib.hid hf; clear hf; clear HK; have HK := Lib.hid hk; clear hk))
                    go_roundw
                    case rel => exact ⟨0 + 1, by omega, by go_num, HK.out.tail, HU0.out⟩
                    case measure => simp [intOf]
            · have hc := HUA.out
              rw [HEU.out hE] at hc
              generalize useE x0 a1 a2 = e at hE hc
              clear HIU HIG HEU HEG HTF
              go_wp2_with (first
                | (with_reducible refine load_all HK.out 0 288 Try.underlying26 rfl r_info rfl _ rfl rfl rfl HR.out ?_)
                | (go_at_call 20; (with_reducible refine (hc _).mono ?_); rintro e u ⟨rfl, hb⟩; have hk := HK.out.call hb; have hf := HU0.out.call hb; clear hb HU0; have HU0 := Lib.hid hf; clear hf; clear HK; have HK := Lib.hid hk; clear hk)
                | (with_reducible refine alloc_zero HK.out 288 r_zero rfl rfl ?_; intro b15 u hn hk hb; clear hne; have hne := Lib.hid (Nat.ne_of_lt (hn ▸ HU0.out.lt)); have hf := HU0.out.call hb; clear hb hn HU0; have HU0 := Lib.hid hf; clear hf; clear HK; have HK := Lib.hid hk; clear hk)
                | (with_reducible refine store_all HK.out 0 288 r_info rfl rfl _ _ rfl rfl rfl rfl (zer_length 288) (zer_length 288) ?_; intro u hk hs; have hf := HU0.out.other hs hne.out; clear hs HU0; have HU0 := Lib.hid hf; clear hf; simp only [List.set_cons_zero] at hk; clear HK; have HK := Lib.hid hk; clear hk))
              go_roundw
              case rel => exact ⟨0 + 1, by omega, by go_num, HK.out.tail, HU0.out⟩
              case measure => simp [intOf]
          · obtain rfl : tk = 1 := by omega
            simp only [Int.natCast_one]
            by_cases hE : grE x0 0 a1 a2 = 0
            · obtain ⟨k, rfl, hk, hn0, hn1, hnb, hX⟩ := HIG.out hE
              have hc := HGA.out
              rw [hE, hX] at hc
              obtain ⟨hRS, hTT, _⟩ := HTF.out (k) k (a2) hk (.inl ⟨rfl, rfl⟩) hnb
              have hlx : (x0.set (k) (x0.getD (k) 0 + a2)).length = 288 := by rw [List.length_set]; exact L0.out
              have ov := rover_r (x0.set (k) (x0.getD (k) 0 + a2)) x0 hlx L0.out
              rw [over_set L0.out (by omega) hn0] at ov
              have t2 := total_any (x0.set (k) (x0.getD (k) 0 + a2)) hlx
              have HG := Lib.hid (fun j : Nat => free_any (x0.set (k) (x0.getD (k) 0 + a2)) hlx (j : Int))
              rw [HTN.out] at hTT
              have HRS := Lib.hid hRS; clear hRS
              have HTT := Lib.hid hTT; clear hTT
              clear hnb
              generalize x0.set (k) (x0.getD (k) 0 + a2) = X at hc HRS hlx ov t2 HG hX HTT
              have HX := Lib.hid hlx
              clear hE hX hlx HIU HIG HEU HEG HTF
              go_wp2_with (first
                | (with_reducible refine load_all HK.out 0 288 Try.underlying26 rfl r_info rfl _ rfl rfl rfl HR.out ?_)
                | (go_at_call 18; (with_reducible refine (hc _).mono ?_); rintro e u ⟨rfl, hb⟩; have hk := HK.out.call hb; have hf := HU0.out.call hb; clear hb HU0; have HU0 := Lib.hid hf; clear hf; clear HK; have HK := Lib.hid hk; clear hk)
                | (with_reducible refine alloc_zero HK.out 288 r_zero rfl rfl ?_; intro b15 u hn hk hb; clear hne; have hne := Lib.hid (Nat.ne_of_lt (hn ▸ HU0.out.lt)); have hf := HU0.out.call hb; clear hb hn HU0; have HU0 := Lib.hid hf; clear hf; clear HK; have HK := Lib.hid hk; clear hk)
                | (with_reducible refine store_all HK.out 0 288 r_info rfl rfl _ _ rfl rfl rfl rfl HX.out (zer_length 288) ?_; intro u hk hs; have hf := HU0.out.other hs hne.out; clear hs HU0; have HU0 := Lib.hid hf; clear hf; simp only [List.set_cons_zero] at hk; clear HK; have HK := Lib.hid hk; clear hk))
              go_loopw [78] (fun ii wr => ∃ j : Nat, j ≤ 16 ∧ ii = .int .i64 j ∧ KeepR w [(b15, 26, X), (b, 26, x0)] wr ∧ FunAt wr bF) (fun i _ => 16 - (intOf i).toNat)
              case atStart => exact ⟨0, by omega, rfl, HK.out, HU0.out⟩
              case round =>
                obtain ⟨j, hj0, rfl, hkk, hf⟩ := hrel
                clear HK HU0
                have HK := Lib.hid hkk; have HU0 := Lib.hid hf; clear hkk hf
                clear f0 f1
                by_cases hlt : j < 16
                · obtain ⟨fr, e1, e2, e3, e5⟩ := HRS.out j hlt
                  have f1 := HFR.out j
                  have f2 := HG.out j
                  rw [e1, e2] at f1
                  generalize freeE X (j : Int) = fe at e3 f2
                  generalize freeN X (j : Int) = fx at e3 f2
                  clear e1 e2
                  have c1 : (0 : Int) ≤ (j : Int) := by omega
                  have c2 : (j : Int) < 16 := by omega
                  have g1 : -18253611008 ≤ fr := e5.1
                  have g2 : fr ≤ 18253611008 := e5.2
                  clear e5
                  by_cases hjk : j = k
                  · subst hjk
                    by_cases hfe : fe = 0
                    · subst hfe
                      obtain rfl : fx = fr + (a2) := by have := e3 rfl; rw [if_pos rfl] at this; exact this
                      clear e3
                      go_wp2_with (first
                        | (with_reducible refine load_all HK.out 1 288 Try.underlying26 rfl r_info rfl _ rfl rfl rfl HR.out ?_)
                        | (with_reducible refine load_all HK.out 0 288 Try.underlying26 rfl r_info rfl _ rfl rfl rfl HX.out ?_)
                        | (go_at_call 11; (with_reducible refine (f1 _).mono ?_); rintro e u ⟨rfl, hb⟩; have hk := HK.out.call hb; have hf := HU0.out.call hb; clear hb HU0; have HU0 := Lib.hid hf; clear hf; clear HK; have HK := Lib.hid hk; clear hk)
                        | (go_at_call 11; (with_reducible refine (f2 _).mono ?_); rintro e u ⟨rfl, hb⟩; have hk := HK.out.call hb; have hf := HU0.out.call hb; clear hb HU0; have HU0 := Lib.hid hf; clear hf; clear HK; have HK := Lib.hid hk; clear hk))
                      go_roundw
                      case rel => exact ⟨j + 1, by omega, by go_num, HK.out, HU0.out⟩
                      case measure => simp [intOf]; omega
                    · clear e3
                      go_wp2_with (first
                        | (with_reducible refine load_all HK.out 1 288 Try.underlying26 rfl r_info rfl _ rfl rfl rfl HR.out ?_)
                        | (with_reducible refine load_all HK.out 0 288 Try.underlying26 rfl r_info rfl _ rfl rfl rfl HX.out ?_)
                        | (go_at_call 11; (with_reducible refine (f1 _).mono ?_); rintro e u ⟨rfl, hb⟩; have hk := HK.out.call hb; have hf := HU0.out.call hb; clear hb HU0; have HU0 := Lib.hid hf; clear hf; clear HK; have HK := Lib.hid hk; clear hk)
                        | (go_at_call 11; (with_reducible refine (f2 _).mono ?_); rintro e u ⟨rfl, hb⟩; have hk := HK.out.call hb; have hf := HU0.out.call hb; clear hb HU0; have HU0 := Lib.hid hf; clear hf; clear HK; have HK := Lib.hid hk; clear hk))
                      go_roundw
                      case rel => exact ⟨j + 1, by omega, by go_num, HK.out, HU0.out⟩
                      case measure => simp [intOf]; omega
                  · have q1 : ((j : Int) == (k : Int)) = false := beq_eq_false_iff_ne.2 (by omega)
                    have q2 : ((j : Int) != (k : Int)) = true := by simp [bne, q1]
                    by_cases hfe : fe = 0
                    · subst hfe
                      obtain rfl : fx = fr := by have := e3 rfl; rw [if_neg hjk] at this; exact this
                      clear e3
                      go_wp2_with (first
                        | (with_reducible refine load_all HK.out 1 288 Try.underlying26 rfl r_info rfl _ rfl rfl rfl HR.out ?_)
                        | (with_reducible refine load_all HK.out 0 288 Try.underlying26 rfl r_info rfl _ rfl rfl rfl HX.out ?_)
                        | (go_at_call 11; (with_reducible refine (f1 _).mono ?_); rintro e u ⟨rfl, hb⟩; have hk := HK.out.call hb; have hf := HU0.out.call hb; clear hb HU0; have HU0 := Lib.hid hf; clear hf; clear HK; have HK := Lib.hid hk; clear hk)
                        | (go_at_call 11; (with_reducible refine (f2 _).mono ?_); rintro e u ⟨rfl, hb⟩; have hk := HK.out.call hb; have hf := HU0.out.call hb; clear hb HU0; have HU0 := Lib.hid hf; clear hf; clear HK; have HK := Lib.hid hk; clear hk))
                      go_roundw
                      case rel => exact ⟨j + 1, by omega, by go_num, HK.out, HU0.out⟩
                      case measure => simp [intOf]; omega
                    · clear e3
                      go_wp2_with (first
                        | (with_reducible refine load_all HK.out 1 288 Try.underlying26 rfl r_info rfl _ rfl rfl rfl HR.out ?_)
                        | (with_reducible refine load_all HK.out 0 288 Try.underlying26 rfl r_info rfl _ rfl rfl rfl HX.out ?_)
                        | (go_at_call 11; (with_reducible refine (f1 _).mono ?_); rintro e u ⟨rfl, hb⟩; have hk := HK.out.call hb; have hf := HU0.out.call hb; clear hb HU0; have HU0 := Lib.hid hf; clear hf; clear HK; have HK := Lib.hid hk; clear hk)
                        | (go_at_call 11; (with_reducible refine (f2 _).mono ?_); rintro e u ⟨rfl, hb⟩; have hk := HK.out.call hb; have hf := HU0.out.call hb; clear hb HU0; have HU0 := Lib.hid hf; clear hf; clear HK; have HK := Lib.hid hk; clear hk))
                      go_roundw
                      case rel => exact ⟨j + 1, by omega, by go_num, HK.out, HU0.out⟩
                      case measure => simp [intOf]; omega
                · obtain rfl : j = 16 := by omega
                  have hTT := HTT.out
                  generalize sumE (totL X) = se at hTT t2
                  generalize sumN (totL X) = sn at hTT t2
                  by_cases hse : se = 0
                  · subst hse
                    obtain rfl : sn = tn + (a2) := hTT rfl
                    clear hTT
                    go_wp2_with (first
                      | (with_reducible refine load_all HK.out 0 288 Try.underlying26 rfl r_info rfl _ rfl rfl rfl HX.out ?_)
                      | (refine load_all_want HK.out 1 288 Try.underlying26 rfl r_info _ rfl rfl rfl rfl HR.out ?_)
                      | (refine load_all_want HK.out 0 288 Try.underlying26 rfl r_info _ rfl rfl rfl rfl HX.out ?_)
                      | (go_at_call 13; (with_reducible refine (t2 _).mono ?_); rintro e u ⟨rfl, hb⟩; have hk := HK.out.call hb; have hf := HU0.out.call hb; clear hb HU0; have HU0 := Lib.hid hf; clear hf; clear HK; have HK := Lib.hid hk; clear hk)
                      | (go_at_call 26; (with_reducible refine (ov _).mono ?_); rintro e u ⟨rfl, hb⟩; have hk := HK.out.call hb; have hf := HU0.out.call hb; clear hb HU0; have HU0 := Lib.hid hf; clear hf; clear HK; have HK := Lib.hid hk; clear hk))
                    go_roundw
                    case rel => exact ⟨1 + 1, by omega, by go_num, HK.out.tail, HU0.out⟩
                    case measure => simp [intOf]
                  · clear hTT
                    go_wp2_with (first
                      | (with_reducible refine load_all HK.out 0 288 Try.underlying26 rfl r_info rfl _ rfl rfl rfl HX.out ?_)
                      | (refine load_all_want HK.out 1 288 Try.underlying26 rfl r_info _ rfl rfl rfl rfl HR.out ?_)
                      | (refine load_all_want HK.out 0 288 Try.underlying26 rfl r_info _ rfl rfl rfl rfl HX.out ?_)
                      | (go_at_call 13; (with_reducible refine (t2 _).mono ?_); rintro e u ⟨rfl, hb⟩; have hk := HK.out.call hb; have hf := HU0.out.call hb; clear hb HU0; have HU0 := Lib.hid hf; clear hf; clear HK; have HK := Lib.hid hk; clear hk)
                      | (go_at_call 26; (with_reducible refine (ov _).mono ?_); rintro e u ⟨rfl, hb⟩; have hk := HK.out.call hb; have hf := HU0.out.call hb; clear hb HU0; have HU0 := Lib.hid hf; clear hf; clear HK; have HK := Lib.hid hk; clear hk))
                    go_roundw
                    case rel => exact ⟨1 + 1, by omega, by go_num, HK.out.tail, HU0.out⟩
                    case measure => simp [intOf]
            · have hc := HGA.out
              rw [HEG.out hE] at hc
              generalize grE x0 0 a1 a2 = e at hE hc
              clear HIU HIG HEU HEG HTF
              go_wp2_with (first
                | (with_reducible refine load_all HK.out 0 288 Try.underlying26 rfl r_info rfl _ rfl rfl rfl HR.out ?_)
                | (go_at_call 18; (with_reducible refine (hc _).mono ?_); rintro e u ⟨rfl, hb⟩; have hk := HK.out.call hb; have hf := HU0.out.call hb; clear hb HU0; have HU0 := Lib.hid hf; clear hf; clear HK; have HK := Lib.hid hk; clear hk)
                | (with_reducible refine alloc_zero HK.out 288 r_zero rfl rfl ?_; intro b15 u hn hk hb; clear hne; have hne := Lib.hid (Nat.ne_of_lt (hn ▸ HU0.out.lt)); have hf := HU0.out.call hb; clear hb hn HU0; have HU0 := Lib.hid hf; clear hf; clear HK; have HK := Lib.hid hk; clear hk)
                | (with_reducible refine store_all HK.out 0 288 r_info rfl rfl _ _ rfl rfl rfl rfl (zer_length 288) (zer_length 288) ?_; intro u hk hs; have hf := HU0.out.other hs hne.out; clear hs HU0; have HU0 := Lib.hid hf; clear hf; simp only [List.set_cons_zero] at hk; clear HK; have HK := Lib.hid hk; clear hk))
              go_roundw
              case rel => exact ⟨1 + 1, by omega, by go_num, HK.out.tail, HU0.out⟩
              case measure => simp [intOf]

set_option maxRecDepth 100000 in
theorem lifted (os : Os) (started : os.Started) (H : Type) (enc : TypeId × Value → H) :
    ReturnsInHanded {} Try.checked os 9 .any (Rows.rightsUseSpec.pre6 enc Try.prog Try.f9 Rows.rightsUseRow.domain false) (Rows.rightsUseSpec.post enc Try.prog Try.f9 false true false false) := by
  refine returnsInHanded_of_change (C := Try.checked) own started (by kernel_rfl) Try.func9
    (ChangeSpec.witness6 (enc := enc) (C := Try.checked) false ⟨#[], #[.agg (vals (zer 288)).toArray, .int .i64 0, .int .i64 0], []⟩ 12 (by kernel_rfl) (by kernel_rfl) (by kernel_rfl) (by kernel_rfl)) ?_
  intro W base args ds gs before hval0 hW hcnd _
  have hval : ∀ (j : Nat) t v, Try.f9.params[j]? = some t → args[j]? = some v → Value.okWide Try.prog W .any base t v := hval0
  have hW' := hW
  obtain ⟨p, q, hA0, hV, rfl, hfz, hnd⟩ := hW
  have hA : DataW.TrodAll enc Try.prog W 0 (fun _ => true) true Try.f9.params.toList args.toList ds p := hA0
  rw [Try.params9] at hA hval
  obtain ⟨v0, vs0, d0, ds0, p0, q0, hargs, rfl, rfl, h0, r0⟩ := trodAll_cons hA
  obtain ⟨v1, vs1, d1, ds1, p1, q1, rfl, rfl, rfl, h1, r1⟩ := trodAll_cons r0
  obtain ⟨v2, vs2, d2, ds2, p2, q2, rfl, rfl, rfl, h2, r2⟩ := trodAll_cons r1
  obtain ⟨rfl, rfl, rfl⟩ := trodAll_nil r2
  obtain rfl : args = #[v0, v1, v2] := by cases args; simp_all
  obtain ⟨rfl, rfl⟩ := trodVars_none hV
  have k0 := h0
  have lt0 : ∀ x ∈ p0, x.block < W.heap.size := by obtain ⟨m, hm⟩ := k0; exact DataW.trod_lt m _ _ _ hm
  obtain ⟨x0, rfl, l0, z0⟩ := open_r (hval 0 26 v0 rfl rfl) h0
  have k1 := h1
  have lt1 : ∀ x ∈ p1, x.block < W.heap.size := by obtain ⟨m, hm⟩ := k1; exact DataW.trod_lt m _ _ _ hm
  obtain ⟨a1, rfl, rfl, rfl, w1⟩ := open_int Try.underlying3 (hval 1 3 v1 rfl rfl) h1
  have k2 := h2
  have lt2 : ∀ x ∈ p2, x.block < W.heap.size := by obtain ⟨m, hm⟩ := k2; exact DataW.trod_lt m _ _ _ hm
  obtain ⟨a2, rfl, rfl, rfl, w2⟩ := open_int Try.underlying3 (hval 2 3 v2 rfl rfl) h2
  clear hA0 hval0
  refine (walk x0 l0 z0 a1 w1 a2 w2 W).mono fun e W' ⟨he, bel⟩ => ?_
  subst he
  exact ⟨_, rfl, _, _, _, [], _, [], hW', trodAll_mk1 (shut_bool Try.underlying4 _), (trodAll_cons_mk (Below.trod laidOut (by kernel_rfl) (of_decide_eq_true (by kernel_rfl)) k0 bel lt0) (trodAll_cons_mk (Below.trod laidOut (by kernel_rfl) (of_decide_eq_true (by kernel_rfl)) k1 bel lt1) (trodAll_cons_mk (Below.trod laidOut (by kernel_rfl) (of_decide_eq_true (by kernel_rfl)) k2 bel lt2) trodAll_mk0))), rfl, bel.frame _, fun h => by cases h⟩

theorem over : Rows.rightsUseRow.holds Try.pinned (OpenSpec.ofChange Rows.rightsUseSpec) :=
  OpenClaim.holds_of_wide 9 Try.f9 rfl rfl rfl rfl rfl rfl rfl ⟨rfl, rfl, rfl, rfl, rfl⟩ rfl rfl rfl rfl rfl (by kernel_rfl) Try.func9 (by kernel_rfl)
    (of_decide_eq_true (by kernel_rfl)) (by unfold Func.isWrapper; first | (rw [if_pos (by decide +kernel)]; kernel_rfl) | (rw [if_neg (by decide +kernel)]; exact ⟨rfl, rfl⟩))
    (fun os started H enc _ => lifted os started H enc)

theorem proved : Rows.RightsUseSaid := over
#print axioms proved
end Go.Proofs.Ytpbjencigepnfaa.rightsUse
