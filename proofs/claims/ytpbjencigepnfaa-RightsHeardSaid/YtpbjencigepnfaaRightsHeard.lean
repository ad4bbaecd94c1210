/- For every row of steps, a and b usufructlaw03.RightsHeard returns true, and each argument reads as before. No condition. -/
import Derived.Test.YtpbjencigepnfaaRtHeard
import Derived.WalkKit
import Derived.ProofKit
import Derived.OpenShut
import Derived.ChangeOld
import Derived.Below
namespace Go.Proofs.Ytpbjencigepnfaa.rightsHeard
open Go.ChangeShapes Go.WideShapes Go.ChangeAt Go.RowKit
set_option linter.unusedVariables false

theorem own : ownKnob Try.prog.godebug = none := by kernel_rfl
theorem laidOut : laidOutB Try.prog = true := by kernel_rfl

set_option maxRecDepth 100000 in
set_option maxHeartbeats 4000000 in
theorem walk (w : World) (A0 : Option Addr) (n0 c0 : Nat) (x0 : List Int) (hd0 : Steps w A0 n0 x0) (a1 : Int) (w1 : (Lit.int .i64 a1).wf = true) (a2 : Int) (w2 : (Lit.int .i64 a2).wf = true) :
    Calls Try.prog 10 #[.slice A0 n0 c0, .int .i64 a1, .int .i64 a2] w fun e w' => e = .returned (.bool true) ∧ Below w.heap.size w w' := by
  by_cases hbad : 60 < n0 ∨ a1 < 0 ∨ 15 < a1 ∨ a2 < 0 ∨ 15 < a2
  · have HK := Lib.hid (KeepR.start w)
    have hd : (60 < (n0 : Int)) ∨ (¬ 60 < (n0 : Int) ∧ a1 < 0) ∨ (¬ 60 < (n0 : Int) ∧ ¬ a1 < 0 ∧ 15 < a1) ∨ (¬ 60 < (n0 : Int) ∧ ¬ a1 < 0 ∧ ¬ 15 < a1 ∧ a2 < 0) ∨ (¬ 60 < (n0 : Int) ∧ ¬ a1 < 0 ∧ ¬ 15 < a1 ∧ ¬ a2 < 0 ∧ 15 < a2) := by omega
    clear hbad hd0
    rcases hd with h1 | ⟨h1, h2⟩ | ⟨h1, h2, h3⟩ | ⟨h1, h2, h3, h4⟩ | ⟨h1, h2, h3, h4, h5⟩
    · skip
      go_enter Try.func10, Try.ntmps10
      go_wp2_with (first
        | (go_at_call 17; (with_reducible refine (awake3 _).mono ?_); rintro e u ⟨rfl, hb⟩; have hk := HK.out.call hb; clear hb; clear HK; have HK := Lib.hid hk; clear hk))
      go_ret
      exact ⟨rfl, HK.out.bel⟩
    · skip
      go_enter Try.func10, Try.ntmps10
      go_wp2_with (first
        | (go_at_call 17; (with_reducible refine (awake3 _).mono ?_); rintro e u ⟨rfl, hb⟩; have hk := HK.out.call hb; clear hb; clear HK; have HK := Lib.hid hk; clear hk))
      go_ret
      exact ⟨rfl, HK.out.bel⟩
    · skip
      go_enter Try.func10, Try.ntmps10
      go_wp2_with (first
        | (go_at_call 17; (with_reducible refine (awake3 _).mono ?_); rintro e u ⟨rfl, hb⟩; have hk := HK.out.call hb; clear hb; clear HK; have HK := Lib.hid hk; clear hk))
      go_ret
      exact ⟨rfl, HK.out.bel⟩
    · skip
      go_enter Try.func10, Try.ntmps10
      go_wp2_with (first
        | (go_at_call 17; (with_reducible refine (awake3 _).mono ?_); rintro e u ⟨rfl, hb⟩; have hk := HK.out.call hb; clear hb; clear HK; have HK := Lib.hid hk; clear hk))
      go_ret
      exact ⟨rfl, HK.out.bel⟩
    · skip
      go_enter Try.func10, Try.ntmps10
      go_wp2_with (first
        | (go_at_call 17; (with_reducible refine (awake3 _).mono ?_); rintro e u ⟨rfl, hb⟩; have hk := HK.out.call hb; clear hb; clear HK; have HK := Lib.hid hk; clear hk))
      go_ret
      exact ⟨rfl, HK.out.bel⟩
  · have hn : ¬ (60 : Int) < (n0 : Int) := by omega
    obtain ⟨a, rfl⟩ : ∃ a : Nat, a1 = a := ⟨a1.toNat, by omega⟩
    obtain ⟨b, rfl⟩ : ∃ b : Nat, a2 = b := ⟨a2.toNat, by omega⟩
    have ha : a < 16 := by omega
    have hb16 : b < 16 := by omega
    have HP := Lib.hid (play_any A0 n0 c0 x0 (by omega) w hd0)
    have HK := Lib.hid (KeepR.start w)
    have HS := Lib.hid True.intro
    have HI := Lib.hid True.intro
    clear hd0 hbad w1 w2
    have p1 : ¬ (a : Int) < 0 := by omega
    have p2 : ¬ 15 < (a : Int) := by omega
    have p3 : ¬ (b : Int) < 0 := by omega
    have p4 : ¬ 15 < (b : Int) := by omega
    have q1 : (0 : Int) ≤ (a : Int) := by omega
    have q2 : (a : Int) < 16 := by omega
    have q3 : (0 : Int) ≤ (b : Int) := by omega
    have q4 : (b : Int) < 16 := by omega
    go_enter Try.func10, Try.ntmps10
    go_wp2_with (first
      | (go_at_call 28; refine HP.out.mono ?_; rintro e u ⟨S, rfl, hS, hI, hb⟩; clear HS HI; have HS := Lib.hid hS; have HI := Lib.hid hI; have hk := HK.out.call hb; clear hb hS hI; clear HK; have HK := Lib.hid hk; clear hk)
      | (with_reducible refine alloc_zero HK.out 4608 s_zero rfl rfl ?_; intro b7 u hnn hk hb; clear hnn hb; clear HK; have HK := Lib.hid hk; clear hk)
      | (with_reducible refine store_all HK.out 0 4608 s_info rfl rfl _ _ rfl rfl rfl rfl HS.out (zer_length 4608) ?_; intro u hk hs; clear hs; simp only [List.set_cons_zero] at hk; clear HK; have HK := Lib.hid hk; clear hk))
    have LA := Lib.hid (seg_length (R := S) (o := a * 288) (n := 288) (by have := HS.out; omega))
    have LB := Lib.hid (seg_length (R := S) (o := b * 288) (n := 288) (by have := HS.out; omega))
    have HJ := Lib.hid (joinL_len LA.out LB.out)
    have jc := join_r (seg S (a * 288) 288) (seg S (b * 288) 288) LA.out LB.out
    have o1 := rover_r (joinL (seg S (a * 288) 288) (seg S (b * 288) 288)) (seg S (a * 288) 288) HJ.out LA.out
    rw [join_over_l LA.out LB.out] at o1
    have o2 := rover_r (joinL (seg S (a * 288) 288) (seg S (b * 288) 288)) (seg S (b * 288) 288) HJ.out LB.out
    rw [join_over_r LA.out LB.out] at o2
    have j2 := join_r (joinL (seg S (a * 288) 288) (seg S (b * 288) 288)) (seg S (b * 288) 288) HJ.out LB.out
    rw [join_again LA.out LB.out] at j2
    have f1 := free_any (seg S (a * 288) 288) LA.out (a : Int)
    rw [(HI.out.told (Nat.le_refl _) HS.out ha ha).1, (HI.out.told (Nat.le_refl _) HS.out ha ha).2] at f1
    have f2 := free_any (joinL (seg S (a * 288) 288) (seg S (b * 288) 288)) HJ.out (a : Int)
    obtain ⟨e1, y, e2, hxy⟩ := heard_free HI.out HS.out ha hb16
    rw [e1, e2] at f2
    clear e1 e2
    have HSZ := Lib.hid HS.out
    have HX2 := Lib.hid (heard_own HI.out HS.out ha hb16 (.inr (.inl rfl) : mine a (16 + a)))
    have HRW := Lib.hid (heard_row HI.out HS.out ha hb16)
    generalize V (st S a) a = x at f1 hxy
    have g3 : decide (x ≤ y) = true := decide_eq_true hxy
    have g4 : decide (y ≥ x) = true := decide_eq_true hxy
    generalize hJn : joinL (seg S (a * 288) 288) (seg S (b * 288) 288) = J at HJ jc o1 o2 j2 f2 HX2 HRW
    clear hJn
    have qJ := eql_r J J HJ.out HJ.out
    have qv := eql_vec (seg J (32 + a * 16) 16) (seg J (32 + a * 16) 16) (seg_length (by have := HJ.out; omega)) (seg_length (by have := HJ.out; omega))
    rw [beq_self_eq_true] at qJ qv
    have hge : Try.prog.eqGuardType Try.prog.depth 26 = false := by kernel_rfl
    have hgv : Try.prog.eqGuardType Try.prog.depth 23 = false := by kernel_rfl
    refine Draws.start (S := fun u => KeepR w [(b7, 42, S)] u) (n := 8) 9 rfl (by kernel_rfl) ?_
    have HQ := Lib.hid ((HK.out.drew : (fun u => KeepR w [(b7, 42, S)] u) _))
    refine Draws.take 0 (v := ?v49) HQ.out rfl (by kernel_rfl) (fun _ _ _ h => h) (Or.inl ⟨rfl, ?h49⟩) ?r49
    case h49 => intro w' hw'; go_simp; (try with_reducible rfl)
    (try simp only [Act.put, List.setIfInBounds_toArray, List.set_cons_zero, List.set_cons_succ])
    refine Draws.take 1 (v := ?v50) HQ.out rfl (by kernel_rfl) (fun _ _ _ h => h) (Or.inl ⟨rfl, ?h50⟩) ?r50
    case h50 => intro w' hw'; go_simp; (try with_reducible rfl)
    (try simp only [Act.put, List.setIfInBounds_toArray, List.set_cons_zero, List.set_cons_succ])
    refine Draws.take 2 HQ.out rfl (by kernel_rfl) (fun _ _ _ h => h) (yield_part (fun _ h => h) 0 288 Try.underlying26 rfl r_info rfl _ rfl rfl rfl (by have := HS.out; omega)) ?_
    (try simp only [Act.put, List.setIfInBounds_toArray, List.set_cons_zero, List.set_cons_succ])
    refine Draws.take 3 (v := ?v51) HQ.out rfl (by kernel_rfl) (fun _ _ _ h => h) (Or.inl ⟨rfl, ?h51⟩) ?r51
    case h51 => intro w' hw'; go_simp; (try with_reducible rfl)
    (try simp only [Act.put, List.setIfInBounds_toArray, List.set_cons_zero, List.set_cons_succ])
    refine Draws.take 4 (v := ?v52) HQ.out rfl (by kernel_rfl) (fun _ _ _ h => h) (Or.inl ⟨rfl, ?h52⟩) ?r52
    case h52 => intro w' hw'; go_simp; (try with_reducible rfl)
    (try simp only [Act.put, List.setIfInBounds_toArray, List.set_cons_zero, List.set_cons_succ])
    refine Draws.take 5 HQ.out rfl (by kernel_rfl) (fun _ _ _ h => h) (yield_part (fun _ h => h) 0 288 Try.underlying26 rfl r_info rfl _ rfl rfl rfl (by have := HS.out; omega)) ?_
    (try simp only [Act.put, List.setIfInBounds_toArray, List.set_cons_zero, List.set_cons_succ])
    refine Draws.either 6 7 rfl rfl (by kernel_rfl) rfl rfl (fun K hK => ?_) (fun K hK => ?_)
    · skip
      go_simp
      go_at_call 24
      refine (jc _).mono ?_
      rintro e u ⟨rfl, hb⟩
      (try dsimp only)
      refine hK.out _ _ (fun _ => HQ.out.call hb) ?_
      clear hK K
      have hs : (fun u => KeepR w [(b7, 42, S)] u) u := HQ.out.call hb
      clear HQ
      have HQ := Lib.hid hs; clear hs
      (try simp only [Act.put, List.setIfInBounds_toArray, List.set_cons_zero, List.set_cons_succ])
      clear hb
      refine Draws.does 7 rfl (by kernel_rfl) rfl (fun K hK => ?_)
      refine wp_alloc_zero HQ.out 288 r_zero rfl ?_
      intro b8 u hx hb
      have HX := Lib.hid hx; clear hx
      refine hK.out _ _ (fun _ => HQ.out.call hb) ?_
      clear hK K
      have hs : (fun u => KeepR w [(b7, 42, S)] u) u := HQ.out.call hb
      clear HQ
      have HQ := Lib.hid hs; clear hs
      (try simp only [Act.put, List.setIfInBounds_toArray, List.set_cons_zero, List.set_cons_succ])
      clear hb
      refine Draws.does 8 rfl (by kernel_rfl) rfl (fun K hK => ?_)
      refine wp_store_part HX.out 0 288 r_info rfl _ _ rfl rfl rfl rfl HJ.out (by rw [zer_length]; omega) ?_
      intro u hk
      rw [splice_all (by rw [HJ.out, zer_length])] at hk
      simp only [List.set_cons_zero] at hk
      refine hK.out _ _ (fun h => absurd h (by omega)) ?_
      clear hK K HQ HK HX
      have HK := Lib.hid hk; clear hk
      refine Draws.done (by kernel_rfl) ?_
      go_wp2_with (first
        | (with_reducible refine load_all HK.out 0 288 Try.underlying26 rfl r_info rfl _ rfl rfl rfl HJ.out ?_)
        | (with_reducible refine load_part HK.out 1 288 Try.underlying26 rfl r_info rfl _ rfl rfl rfl (by have := HS.out; omega) ?_)
        | (go_at_call 11; (with_reducible refine (f1 _).mono ?_); rintro e u ⟨rfl, hb⟩; have hk := HK.out.call hb; clear hb; clear HK; have HK := Lib.hid hk; clear hk)
        | (go_at_call 11; (with_reducible refine (f2 _).mono ?_); rintro e u ⟨rfl, hb⟩; have hk := HK.out.call hb; clear hb; clear HK; have HK := Lib.hid hk; clear hk))
      refine Draws.start (S := fun u => KeepR w [(b8, 26, J), (b7, 42, S)] u) (n := 64) 64 rfl (by kernel_rfl) ?_
      have HQ := Lib.hid ((HK.out.drew : (fun u => KeepR w [(b8, 26, J), (b7, 42, S)] u) _))
      refine Draws.take 0 HQ.out rfl (by kernel_rfl) (fun _ _ _ h => h) (yield_all (fun _ h => h) 0 288 Try.underlying26 rfl r_info rfl _ rfl rfl rfl HJ.out) ?_
      (try simp only [Act.put, List.setIfInBounds_toArray, List.set_cons_zero, List.set_cons_succ])
      refine Draws.take 1 (v := ?v53) HQ.out rfl (by kernel_rfl) (fun _ _ _ h => h) (Or.inl ⟨rfl, ?h53⟩) ?r53
      case h53 => intro w' hw'; go_simp; (try with_reducible rfl)
      (try simp only [Act.put, List.setIfInBounds_toArray, List.set_cons_zero, List.set_cons_succ])
      refine Draws.take 2 (v := ?v54) HQ.out rfl (by kernel_rfl) (fun _ _ _ h => h) (Or.inl ⟨rfl, ?h54⟩) ?r54
      case h54 => intro w' hw'; go_simp; (try with_reducible rfl)
      (try simp only [Act.put, List.setIfInBounds_toArray, List.set_cons_zero, List.set_cons_succ])
      refine Draws.take 3 HQ.out rfl (by kernel_rfl) (fun _ _ _ h => h) (yield_part (fun _ h => h) 1 288 Try.underlying26 rfl r_info rfl _ rfl rfl rfl (by have := HSZ.out; omega)) ?_
      (try simp only [Act.put, List.setIfInBounds_toArray, List.set_cons_zero, List.set_cons_succ])
      refine Draws.does 4 rfl (by kernel_rfl) rfl (fun K hK => ?_)
      go_simp
      go_at_call 26
      refine (o1 _).mono ?_
      rintro e u ⟨rfl, hb⟩
      (try dsimp only)
      refine hK.out _ _ (fun _ => HQ.out.call hb) ?_
      clear hK K
      have hs : (fun u => KeepR w [(b8, 26, J), (b7, 42, S)] u) u := HQ.out.call hb
      clear HQ
      have HQ := Lib.hid hs; clear hs
      (try simp only [Act.put, List.setIfInBounds_toArray, List.set_cons_zero, List.set_cons_succ])
      clear hb
      refine Draws.take 5 (v := ?v55) HQ.out rfl (by kernel_rfl) (fun _ _ _ h => h) (Or.inl ⟨rfl, ?h55⟩) ?r55
      case h55 => intro w' hw'; go_simp; (try with_reducible rfl)
      (try simp only [Act.put, List.setIfInBounds_toArray, List.set_cons_zero, List.set_cons_succ])
      refine Draws.take 6 HQ.out rfl (by kernel_rfl) (fun _ _ _ h => h) (yield_all (fun _ h => h) 0 288 Try.underlying26 rfl r_info rfl _ rfl rfl rfl HJ.out) ?_
      (try simp only [Act.put, List.setIfInBounds_toArray, List.set_cons_zero, List.set_cons_succ])
      refine Draws.take 7 (v := ?v56) HQ.out rfl (by kernel_rfl) (fun _ _ _ h => h) (Or.inl ⟨rfl, ?h56⟩) ?r56
      case h56 => intro w' hw'; go_simp; (try with_reducible rfl)
      (try simp only [Act.put, List.setIfInBounds_toArray, List.set_cons_zero, List.set_cons_succ])
      refine Draws.take 8 (v := ?v57) HQ.out rfl (by kernel_rfl) (fun _ _ _ h => h) (Or.inl ⟨rfl, ?h57⟩) ?r57
      case h57 => intro w' hw'; go_simp; (try with_reducible rfl)
      (try simp only [Act.put, List.setIfInBounds_toArray, List.set_cons_zero, List.set_cons_succ])
      refine Draws.take 9 HQ.out rfl (by kernel_rfl) (fun _ _ _ h => h) (yield_part (fun _ h => h) 1 288 Try.underlying26 rfl r_info rfl _ rfl rfl rfl (by have := HSZ.out; omega)) ?_
      (try simp only [Act.put, List.setIfInBounds_toArray, List.set_cons_zero, List.set_cons_succ])
      refine Draws.does 10 rfl (by kernel_rfl) rfl (fun K hK => ?_)
      go_simp
      go_at_call 26
      refine (o2 _).mono ?_
      rintro e u ⟨rfl, hb⟩
      (try dsimp only)
      refine hK.out _ _ (fun _ => HQ.out.call hb) ?_
      clear hK K
      have hs : (fun u => KeepR w [(b8, 26, J), (b7, 42, S)] u) u := HQ.out.call hb
      clear HQ
      have HQ := Lib.hid hs; clear hs
      (try simp only [Act.put, List.setIfInBounds_toArray, List.set_cons_zero, List.set_cons_succ])
      clear hb
      refine Draws.take 11 (v := ?v58) HQ.out rfl (by kernel_rfl) (fun _ _ _ h => h) (Or.inl ⟨rfl, ?h58⟩) ?r58
      case h58 => intro w' hw'; go_simp; (try with_reducible rfl)
      (try simp only [Act.put, List.setIfInBounds_toArray, List.set_cons_zero, List.set_cons_succ])
      refine Draws.take 12 (v := ?v59) HQ.out rfl (by kernel_rfl) (fun _ _ _ h => h) (Or.inl ⟨rfl, ?h59⟩) ?r59
      case h59 => intro w' hw'; go_simp; (try with_reducible rfl)
      (try simp only [Act.put, List.setIfInBounds_toArray, List.set_cons_zero, List.set_cons_succ])
      refine Draws.take 13 HQ.out rfl (by kernel_rfl) (fun _ _ _ h => h) (yield_all (fun _ h => h) 0 288 Try.underlying26 rfl r_info rfl _ rfl rfl rfl HJ.out) ?_
      (try simp only [Act.put, List.setIfInBounds_toArray, List.set_cons_zero, List.set_cons_succ])
      refine Draws.take 14 (v := ?v60) HQ.out rfl (by kernel_rfl) (fun _ _ _ h => h) (Or.inl ⟨rfl, ?h60⟩) ?r60
      case h60 => intro w' hw'; go_simp; (try with_reducible rfl)
      (try simp only [Act.put, List.setIfInBounds_toArray, List.set_cons_zero, List.set_cons_succ])
      refine Draws.take 15 (v := ?v61) HQ.out rfl (by kernel_rfl) (fun _ _ _ h => h) (Or.inl ⟨rfl, ?h61⟩) ?r61
      case h61 => intro w' hw'; go_simp; (try with_reducible rfl)
      (try simp only [Act.put, List.setIfInBounds_toArray, List.set_cons_zero, List.set_cons_succ])
      refine Draws.take 16 HQ.out rfl (by kernel_rfl) (fun _ _ _ h => h) (yield_part (fun _ h => h) 1 288 Try.underlying26 rfl r_info rfl _ rfl rfl rfl (by have := HSZ.out; omega)) ?_
      (try simp only [Act.put, List.setIfInBounds_toArray, List.set_cons_zero, List.set_cons_succ])
      refine Draws.take 18 HQ.out rfl (by kernel_rfl) (fun _ _ _ h => h) (yield_all (fun _ h => h) 0 288 Try.underlying26 rfl r_info rfl _ rfl rfl rfl HJ.out) ?_
      (try simp only [Act.put, List.setIfInBounds_toArray, List.set_cons_zero, List.set_cons_succ])
      refine Draws.does 17 rfl (by kernel_rfl) rfl (fun K hK => ?_)
      go_simp
      go_at_call 24
      refine (j2 _).mono ?_
      rintro e u ⟨rfl, hb⟩
      (try dsimp only)
      refine hK.out _ _ (fun _ => HQ.out.call hb) ?_
      clear hK K
      have hs : (fun u => KeepR w [(b8, 26, J), (b7, 42, S)] u) u := HQ.out.call hb
      clear HQ
      have HQ := Lib.hid hs; clear hs
      (try simp only [Act.put, List.setIfInBounds_toArray, List.set_cons_zero, List.set_cons_succ])
      clear hb
      refine Draws.take 19 (v := ?v62) HQ.out rfl (by kernel_rfl) (fun _ _ _ h => h) (Or.inl ⟨rfl, ?h62⟩) ?r62
      case h62 => intro w' hw'; go_simp; (try with_reducible rfl)
      (try simp only [Act.put, List.setIfInBounds_toArray, List.set_cons_zero, List.set_cons_succ])
      refine Draws.take 20 (v := ?v63) HQ.out rfl (by kernel_rfl) (fun _ _ _ h => h) (Or.inl ⟨rfl, ?h63⟩) ?r63
      case h63 => intro w' hw'; go_simp; (try with_reducible rfl)
      (try simp only [Act.put, List.setIfInBounds_toArray, List.set_cons_zero, List.set_cons_succ])
      refine Draws.take 21 (v := ?v64) HQ.out rfl (by kernel_rfl) (fun _ _ _ h => h) (Or.inl ⟨rfl, ?h64⟩) ?r64
      case h64 => intro w' hw'; go_simp; (try with_reducible rfl)
      (try simp only [Act.put, List.setIfInBounds_toArray, List.set_cons_zero, List.set_cons_succ])
      refine Draws.take 22 (v := ?v65) HQ.out rfl (by kernel_rfl) (fun _ _ _ h => h) (Or.inl ⟨rfl, ?h65⟩) ?r65
      case h65 => intro w' hw'; go_simp; (try with_reducible rfl)
      (try simp only [Act.put, List.setIfInBounds_toArray, List.set_cons_zero, List.set_cons_succ])
      refine Draws.take 23 (v := ?v66) HQ.out rfl (by kernel_rfl) (fun _ _ _ h => h) (Or.inl ⟨rfl, ?h66⟩) ?r66
      case h66 => intro w' hw'; go_simp; (try with_reducible rfl)
      (try simp only [Act.put, List.setIfInBounds_toArray, List.set_cons_zero, List.set_cons_succ])
      refine Draws.take 24 (v := ?v67) HQ.out rfl (by kernel_rfl) (fun _ _ _ h => h) (Or.inl ⟨rfl, ?h67⟩) ?r67
      case h67 => intro w' hw'; go_simp; (try with_reducible rfl)
      (try simp only [Act.put, List.setIfInBounds_toArray, List.set_cons_zero, List.set_cons_succ])
      refine Draws.take 25 (v := ?v68) HQ.out rfl (by kernel_rfl) (fun _ _ _ h => h) (Or.inl ⟨rfl, ?h68⟩) ?r68
      case h68 => intro w' hw'; go_simp; (try with_reducible rfl)
      (try simp only [Act.put, List.setIfInBounds_toArray, List.set_cons_zero, List.set_cons_succ])
      refine Draws.take 26 (v := ?v69) HQ.out rfl (by kernel_rfl) (fun _ _ _ h => h) (Or.inl ⟨rfl, ?h69⟩) ?r69
      case h69 => intro w' hw'; go_simp; (try with_reducible rfl)
      (try simp only [Act.put, List.setIfInBounds_toArray, List.set_cons_zero, List.set_cons_succ])
      refine Draws.take 27 (v := ?v70) HQ.out rfl (by kernel_rfl) (fun _ _ _ h => h) (Or.inl ⟨rfl, ?h70⟩) ?r70
      case h70 => intro w' hw'; go_simp; (try with_reducible rfl)
      (try simp only [Act.put, List.setIfInBounds_toArray, List.set_cons_zero, List.set_cons_succ])
      refine Draws.take 28 (v := ?v71) HQ.out rfl (by kernel_rfl) (fun _ _ _ h => h) (Or.inl ⟨rfl, ?h71⟩) ?r71
      case h71 => intro w' hw'; go_simp; (try with_reducible rfl)
      (try simp only [Act.put, List.setIfInBounds_toArray, List.set_cons_zero, List.set_cons_succ])
      refine Draws.take 29 (v := ?v72) HQ.out rfl (by kernel_rfl) (fun _ _ _ h => h) (Or.inl ⟨rfl, ?h72⟩) ?r72
      case h72 => intro w' hw'; go_simp; (try with_reducible rfl)
      (try simp only [Act.put, List.setIfInBounds_toArray, List.set_cons_zero, List.set_cons_succ])
      refine Draws.take 30 (v := ?v73) HQ.out rfl (by kernel_rfl) (fun _ _ _ h => h) (Or.inl ⟨rfl, ?h73⟩) ?r73
      case h73 => intro w' hw'; go_simp; (try with_reducible rfl)
      (try simp only [Act.put, List.setIfInBounds_toArray, List.set_cons_zero, List.set_cons_succ])
      refine Draws.take 31 (v := ?v74) HQ.out rfl (by kernel_rfl) (fun _ _ _ h => h) (Or.inl ⟨rfl, ?h74⟩) ?r74
      case h74 => intro w' hw'; go_simp; (try with_reducible rfl)
      (try simp only [Act.put, List.setIfInBounds_toArray, List.set_cons_zero, List.set_cons_succ])
      refine Draws.take 32 (v := ?v75) HQ.out rfl (by kernel_rfl) (fun _ _ _ h => h) (Or.inl ⟨rfl, ?h75⟩) ?r75
      case h75 => intro w' hw'; go_simp; (try with_reducible rfl)
      (try simp only [Act.put, List.setIfInBounds_toArray, List.set_cons_zero, List.set_cons_succ])
      refine Draws.take 33 (v := ?v76) HQ.out rfl (by kernel_rfl) (fun _ _ _ h => h) (Or.inl ⟨rfl, ?h76⟩) ?r76
      case h76 => intro w' hw'; go_simp; (try with_reducible rfl)
      (try simp only [Act.put, List.setIfInBounds_toArray, List.set_cons_zero, List.set_cons_succ])
      refine Draws.take 34 (v := ?v77) HQ.out rfl (by kernel_rfl) (fun _ _ _ h => h) (Or.inl ⟨rfl, ?h77⟩) ?r77
      case h77 => intro w' hw'; go_simp; (try with_reducible rfl)
      (try simp only [Act.put, List.setIfInBounds_toArray, List.set_cons_zero, List.set_cons_succ])
      refine Draws.take 35 (v := ?v78) HQ.out rfl (by kernel_rfl) (fun _ _ _ h => h) (Or.inl ⟨rfl, ?h78⟩) ?r78
      case h78 => intro w' hw'; go_simp; (try with_reducible rfl)
      (try simp only [Act.put, List.setIfInBounds_toArray, List.set_cons_zero, List.set_cons_succ])
      refine Draws.take 36 (v := ?v79) HQ.out rfl (by kernel_rfl) (fun _ _ _ h => h) (Or.inl ⟨rfl, ?h79⟩) ?r79
      case h79 => intro w' hw'; go_simp; (try with_reducible rfl)
      (try simp only [Act.put, List.setIfInBounds_toArray, List.set_cons_zero, List.set_cons_succ])
      refine Draws.take 37 (v := ?v80) HQ.out rfl (by kernel_rfl) (fun _ _ _ h => h) (Or.inl ⟨rfl, ?h80⟩) ?r80
      case h80 => intro w' hw'; go_simp; (try with_reducible rfl)
      (try simp only [Act.put, List.setIfInBounds_toArray, List.set_cons_zero, List.set_cons_succ])
      refine Draws.take 38 (v := ?v81) HQ.out rfl (by kernel_rfl) (fun _ _ _ h => h) (Or.inl ⟨rfl, ?h81⟩) ?r81
      case h81 => intro w' hw'; have hc := (hw'.get 0 rfl).cell (k := 16 + a) (by have := HJ.out; omega); go_simp; (try with_reducible rfl)
      (try simp only [Act.put, List.setIfInBounds_toArray, List.set_cons_zero, List.set_cons_succ])
      refine Draws.take 39 (v := ?v82) HQ.out rfl (by kernel_rfl) (fun _ _ _ h => h) (Or.inl ⟨rfl, ?h82⟩) ?r82
      case h82 => intro w' hw'; go_simp; (try with_reducible rfl)
      (try simp only [Act.put, List.setIfInBounds_toArray, List.set_cons_zero, List.set_cons_succ])
      refine Draws.take 40 (v := ?v83) HQ.out rfl (by kernel_rfl) (fun _ _ _ h => h) (Or.inl ⟨rfl, ?h83⟩) ?r83
      case h83 => intro w' hw'; go_simp; (try with_reducible rfl)
      (try simp only [Act.put, List.setIfInBounds_toArray, List.set_cons_zero, List.set_cons_succ])
      refine Draws.take 41 (v := ?v84) HQ.out rfl (by kernel_rfl) (fun _ _ _ h => h) (Or.inl ⟨rfl, ?h84⟩) ?r84
      case h84 => intro w' hw'; go_simp; (try with_reducible rfl)
      (try simp only [Act.put, List.setIfInBounds_toArray, List.set_cons_zero, List.set_cons_succ])
      refine Draws.take 42 (v := ?v85) HQ.out rfl (by kernel_rfl) (fun _ _ _ h => h) (Or.inl ⟨rfl, ?h85⟩) ?r85
      case h85 => intro w' hw'; go_simp; (try with_reducible rfl)
      (try simp only [Act.put, List.setIfInBounds_toArray, List.set_cons_zero, List.set_cons_succ])
      refine Draws.take 43 (v := ?v86) HQ.out rfl (by kernel_rfl) (fun _ _ _ h => h) (Or.inl ⟨rfl, ?h86⟩) ?r86
      case h86 => intro w' hw'; go_simp; (try with_reducible rfl)
      (try simp only [Act.put, List.setIfInBounds_toArray, List.set_cons_zero, List.set_cons_succ])
      refine Draws.take 44 (v := ?v87) HQ.out rfl (by kernel_rfl) (fun _ _ _ h => h) (Or.inl ⟨rfl, ?h87⟩) ?r87
      case h87 => intro w' hw'; have hc := (hw'.get 1 rfl).cell (k := a * 288 + 16 + a) (by have := HSZ.out; omega); rw [Nat.add_assoc, HX2.out] at hc; rw [← Nat.add_assoc] at hc; go_simp; (try with_reducible rfl)
      (try simp only [Act.put, List.setIfInBounds_toArray, List.set_cons_zero, List.set_cons_succ])
      refine Draws.take 45 (v := ?v88) HQ.out rfl (by kernel_rfl) (fun _ _ _ h => h) (Or.inl ⟨rfl, ?h88⟩) ?r88
      case h88 => intro w' hw'; go_simp; (try with_reducible rfl)
      (try simp only [Act.put, List.setIfInBounds_toArray, List.set_cons_zero, List.set_cons_succ])
      refine Draws.take 46 (v := ?v89) HQ.out rfl (by kernel_rfl) (fun _ _ _ h => h) (Or.inl ⟨rfl, ?h89⟩) ?r89
      case h89 => intro w' hw'; go_simp; (try with_reducible rfl)
      (try simp only [Act.put, List.setIfInBounds_toArray, List.set_cons_zero, List.set_cons_succ])
      refine Draws.take 47 (v := ?v90) HQ.out rfl (by kernel_rfl) (fun _ _ _ h => h) (Or.inl ⟨rfl, ?h90⟩) ?r90
      case h90 => intro w' hw'; go_simp; (try with_reducible rfl)
      (try simp only [Act.put, List.setIfInBounds_toArray, List.set_cons_zero, List.set_cons_succ])
      refine Draws.take 48 (v := ?v91) HQ.out rfl (by kernel_rfl) (fun _ _ _ h => h) (Or.inl ⟨rfl, ?h91⟩) ?r91
      case h91 => intro w' hw'; go_simp; (try with_reducible rfl)
      (try simp only [Act.put, List.setIfInBounds_toArray, List.set_cons_zero, List.set_cons_succ])
      refine Draws.take 49 (v := ?v92) HQ.out rfl (by kernel_rfl) (fun _ _ _ h => h) (Or.inl ⟨rfl, ?h92⟩) ?r92
      case h92 => intro w' hw'; go_simp; (try with_reducible rfl)
      (try simp only [Act.put, List.setIfInBounds_toArray, List.set_cons_zero, List.set_cons_succ])
      refine Draws.take 50 (v := ?v93) HQ.out rfl (by kernel_rfl) (fun _ _ _ h => h) (Or.inl ⟨rfl, ?h93⟩) ?r93
      case h93 => intro w' hw'; go_simp; (try with_reducible rfl)
      (try simp only [Act.put, List.setIfInBounds_toArray, List.set_cons_zero, List.set_cons_succ])
      refine Draws.take 51 HQ.out rfl (by kernel_rfl) (fun _ _ _ h => h) (yield_part (fun _ h => h) 0 16 Try.underlying23 rfl vec_info rfl _ rfl rfl rfl (by have := HJ.out; omega)) ?_
      (try simp only [Act.put, List.setIfInBounds_toArray, List.set_cons_zero, List.set_cons_succ])
      refine Draws.take 52 (v := ?v94) HQ.out rfl (by kernel_rfl) (fun _ _ _ h => h) (Or.inl ⟨rfl, ?h94⟩) ?r94
      case h94 => intro w' hw'; go_simp; (try with_reducible rfl)
      (try simp only [Act.put, List.setIfInBounds_toArray, List.set_cons_zero, List.set_cons_succ])
      refine Draws.take 53 (v := ?v95) HQ.out rfl (by kernel_rfl) (fun _ _ _ h => h) (Or.inl ⟨rfl, ?h95⟩) ?r95
      case h95 => intro w' hw'; go_simp; (try with_reducible rfl)
      (try simp only [Act.put, List.setIfInBounds_toArray, List.set_cons_zero, List.set_cons_succ])
      refine Draws.take 54 (v := ?v96) HQ.out rfl (by kernel_rfl) (fun _ _ _ h => h) (Or.inl ⟨rfl, ?h96⟩) ?r96
      case h96 => intro w' hw'; go_simp; (try with_reducible rfl)
      (try simp only [Act.put, List.setIfInBounds_toArray, List.set_cons_zero, List.set_cons_succ])
      refine Draws.take 55 (v := ?v97) HQ.out rfl (by kernel_rfl) (fun _ _ _ h => h) (Or.inl ⟨rfl, ?h97⟩) ?r97
      case h97 => intro w' hw'; go_simp; (try with_reducible rfl)
      (try simp only [Act.put, List.setIfInBounds_toArray, List.set_cons_zero, List.set_cons_succ])
      refine Draws.take 56 (v := ?v98) HQ.out rfl (by kernel_rfl) (fun _ _ _ h => h) (Or.inl ⟨rfl, ?h98⟩) ?r98
      case h98 => intro w' hw'; go_simp; (try with_reducible rfl)
      (try simp only [Act.put, List.setIfInBounds_toArray, List.set_cons_zero, List.set_cons_succ])
      refine Draws.take 57 HQ.out rfl (by kernel_rfl) (fun _ _ _ h => h) (yield_eq HRW.out (yield_part (fun _ h => h) 1 16 Try.underlying23 rfl vec_info rfl _ rfl rfl rfl (by have := HSZ.out; omega))) ?_
      (try simp only [Act.put, List.setIfInBounds_toArray, List.set_cons_zero, List.set_cons_succ])
      refine Draws.take 58 (v := ?v99) HQ.out rfl (by kernel_rfl) (fun _ _ _ h => h) (Or.inl ⟨rfl, ?h99⟩) ?r99
      case h99 => intro w' hw'; go_simp; (try with_reducible rfl)
      (try simp only [Act.put, List.setIfInBounds_toArray, List.set_cons_zero, List.set_cons_succ])
      refine Draws.take 59 (v := ?v100) HQ.out rfl (by kernel_rfl) (fun _ _ _ h => h) (Or.inl ⟨rfl, ?h100⟩) ?r100
      case h100 => intro w' hw'; go_simp; (try with_reducible rfl)
      (try simp only [Act.put, List.setIfInBounds_toArray, List.set_cons_zero, List.set_cons_succ])
      refine Draws.take 60 (v := ?v101) HQ.out rfl (by kernel_rfl) (fun _ _ _ h => h) (Or.inl ⟨rfl, ?h101⟩) ?r101
      case h101 => intro w' hw'; go_simp; (try with_reducible rfl)
      (try simp only [Act.put, List.setIfInBounds_toArray, List.set_cons_zero, List.set_cons_succ])
      refine Draws.does 61 rfl (by kernel_rfl) rfl (fun K hK => ?_)
      go_simp
      go_at_call 17
      refine (awake3 _).mono ?_
      rintro e u ⟨rfl, hb⟩
      (try dsimp only)
      refine hK.out _ _ (fun _ => HQ.out.call hb) ?_
      clear hK K
      have hs : (fun u => KeepR w [(b8, 26, J), (b7, 42, S)] u) u := HQ.out.call hb
      clear HQ
      have HQ := Lib.hid hs; clear hs
      (try simp only [Act.put, List.setIfInBounds_toArray, List.set_cons_zero, List.set_cons_succ])
      clear hb
      refine Draws.take 62 (v := ?v102) HQ.out rfl (by kernel_rfl) (fun _ _ _ h => h) (Or.inl ⟨rfl, ?h102⟩) ?r102
      case h102 => intro w' hw'; go_simp; (try with_reducible rfl)
      (try simp only [Act.put, List.setIfInBounds_toArray, List.set_cons_zero, List.set_cons_succ])
      refine Draws.take 63 (v := ?v103) HQ.out rfl (by kernel_rfl) (fun _ _ _ h => h) (Or.inl ⟨rfl, ?h103⟩) ?r103
      case h103 => intro w' hw'; go_simp; (try with_reducible rfl)
      (try simp only [Act.put, List.setIfInBounds_toArray, List.set_cons_zero, List.set_cons_succ])
      refine Draws.done (by kernel_rfl) ?_
      go_wp2
      go_ret
      exact ⟨rfl, HQ.out.bel⟩
    · skip
      refine wp_alloc_zero HQ.out 288 r_zero rfl ?_
      intro b8 u hx hb
      have HX := Lib.hid hx; clear hx
      refine hK.out _ _ (fun _ => HQ.out.call hb) ?_
      clear hK K
      have hs : (fun u => KeepR w [(b7, 42, S)] u) u := HQ.out.call hb
      clear HQ
      have HQ := Lib.hid hs; clear hs
      (try simp only [Act.put, List.setIfInBounds_toArray, List.set_cons_zero, List.set_cons_succ])
      clear hb
      refine Draws.does 6 rfl (by kernel_rfl) rfl (fun K hK => ?_)
      go_simp
      go_at_call 24
      refine (jc _).mono ?_
      rintro e u ⟨rfl, hb⟩
      (try dsimp only)
      have hx := HX.out.call hb
      clear HX
      have HX := Lib.hid hx; clear hx
      refine hK.out _ _ (fun _ => HQ.out.call hb) ?_
      clear hK K
      have hs : (fun u => KeepR w [(b7, 42, S)] u) u := HQ.out.call hb
      clear HQ
      have HQ := Lib.hid hs; clear hs
      (try simp only [Act.put, List.setIfInBounds_toArray, List.set_cons_zero, List.set_cons_succ])
      clear hb
      refine Draws.does 8 rfl (by kernel_rfl) rfl (fun K hK => ?_)
      refine wp_store_part HX.out 0 288 r_info rfl _ _ rfl rfl rfl rfl HJ.out (by rw [zer_length]; omega) ?_
      intro u hk
      rw [splice_all (by rw [HJ.out, zer_length])] at hk
      simp only [List.set_cons_zero] at hk
      refine hK.out _ _ (fun h => absurd h (by omega)) ?_
      clear hK K HQ HK HX
      have HK := Lib.hid hk; clear hk
      refine Draws.done (by kernel_rfl) ?_
      go_wp2_with (first
        | (with_reducible refine load_all HK.out 0 288 Try.underlying26 rfl r_info rfl _ rfl rfl rfl HJ.out ?_)
        | (with_reducible refine load_part HK.out 1 288 Try.underlying26 rfl r_info rfl _ rfl rfl rfl (by have := HS.out; omega) ?_)
        | (go_at_call 11; (with_reducible refine (f1 _).mono ?_); rintro e u ⟨rfl, hb⟩; have hk := HK.out.call hb; clear hb; clear HK; have HK := Lib.hid hk; clear hk)
        | (go_at_call 11; (with_reducible refine (f2 _).mono ?_); rintro e u ⟨rfl, hb⟩; have hk := HK.out.call hb; clear hb; clear HK; have HK := Lib.hid hk; clear hk))
      refine Draws.start (S := fun u => KeepR w [(b8, 26, J), (b7, 42, S)] u) (n := 64) 64 rfl (by kernel_rfl) ?_
      have HQ := Lib.hid ((HK.out.drew : (fun u => KeepR w [(b8, 26, J), (b7, 42, S)] u) _))
      refine Draws.take 0 HQ.out rfl (by kernel_rfl) (fun _ _ _ h => h) (yield_all (fun _ h => h) 0 288 Try.underlying26 rfl r_info rfl _ rfl rfl rfl HJ.out) ?_
      (try simp only [Act.put, List.setIfInBounds_toArray, List.set_cons_zero, List.set_cons_succ])
      refine Draws.take 1 (v := ?v104) HQ.out rfl (by kernel_rfl) (fun _ _ _ h => h) (Or.inl ⟨rfl, ?h104⟩) ?r104
      case h104 => intro w' hw'; go_simp; (try with_reducible rfl)
      (try simp only [Act.put, List.setIfInBounds_toArray, List.set_cons_zero, List.set_cons_succ])
      refine Draws.take 2 (v := ?v105) HQ.out rfl (by kernel_rfl) (fun _ _ _ h => h) (Or.inl ⟨rfl, ?h105⟩) ?r105
      case h105 => intro w' hw'; go_simp; (try with_reducible rfl)
      (try simp only [Act.put, List.setIfInBounds_toArray, List.set_cons_zero, List.set_cons_succ])
      refine Draws.take 3 HQ.out rfl (by kernel_rfl) (fun _ _ _ h => h) (yield_part (fun _ h => h) 1 288 Try.underlying26 rfl r_info rfl _ rfl rfl rfl (by have := HSZ.out; omega)) ?_
      (try simp only [Act.put, List.setIfInBounds_toArray, List.set_cons_zero, List.set_cons_succ])
      refine Draws.does 4 rfl (by kernel_rfl) rfl (fun K hK => ?_)
      go_simp
      go_at_call 26
      refine (o1 _).mono ?_
      rintro e u ⟨rfl, hb⟩
      (try dsimp only)
      refine hK.out _ _ (fun _ => HQ.out.call hb) ?_
      clear hK K
      have hs : (fun u => KeepR w [(b8, 26, J), (b7, 42, S)] u) u := HQ.out.call hb
      clear HQ
      have HQ := Lib.hid hs; clear hs
      (try simp only [Act.put, List.setIfInBounds_toArray, List.set_cons_zero, List.set_cons_succ])
      clear hb
      refine Draws.take 5 (v := ?v106) HQ.out rfl (by kernel_rfl) (fun _ _ _ h => h) (Or.inl ⟨rfl, ?h106⟩) ?r106
      case h106 => intro w' hw'; go_simp; (try with_reducible rfl)
      (try simp only [Act.put, List.setIfInBounds_toArray, List.set_cons_zero, List.set_cons_succ])
      refine Draws.take 6 HQ.out rfl (by kernel_rfl) (fun _ _ _ h => h) (yield_all (fun _ h => h) 0 288 Try.underlying26 rfl r_info rfl _ rfl rfl rfl HJ.out) ?_
      (try simp only [Act.put, List.setIfInBounds_toArray, List.set_cons_zero, List.set_cons_succ])
      refine Draws.take 7 (v := ?v107) HQ.out rfl (by kernel_rfl) (fun _ _ _ h => h) (Or.inl ⟨rfl, ?h107⟩) ?r107
      case h107 => intro w' hw'; go_simp; (try with_reducible rfl)
      (try simp only [Act.put, List.setIfInBounds_toArray, List.set_cons_zero, List.set_cons_succ])
      refine Draws.take 8 (v := ?v108) HQ.out rfl (by kernel_rfl) (fun _ _ _ h => h) (Or.inl ⟨rfl, ?h108⟩) ?r108
      case h108 => intro w' hw'; go_simp; (try with_reducible rfl)
      (try simp only [Act.put, List.setIfInBounds_toArray, List.set_cons_zero, List.set_cons_succ])
      refine Draws.take 9 HQ.out rfl (by kernel_rfl) (fun _ _ _ h => h) (yield_part (fun _ h => h) 1 288 Try.underlying26 rfl r_info rfl _ rfl rfl rfl (by have := HSZ.out; omega)) ?_
      (try simp only [Act.put, List.setIfInBounds_toArray, List.set_cons_zero, List.set_cons_succ])
      refine Draws.does 10 rfl (by kernel_rfl) rfl (fun K hK => ?_)
      go_simp
      go_at_call 26
      refine (o2 _).mono ?_
      rintro e u ⟨rfl, hb⟩
      (try dsimp only)
      refine hK.out _ _ (fun _ => HQ.out.call hb) ?_
      clear hK K
      have hs : (fun u => KeepR w [(b8, 26, J), (b7, 42, S)] u) u := HQ.out.call hb
      clear HQ
      have HQ := Lib.hid hs; clear hs
      (try simp only [Act.put, List.setIfInBounds_toArray, List.set_cons_zero, List.set_cons_succ])
      clear hb
      refine Draws.take 11 (v := ?v109) HQ.out rfl (by kernel_rfl) (fun _ _ _ h => h) (Or.inl ⟨rfl, ?h109⟩) ?r109
      case h109 => intro w' hw'; go_simp; (try with_reducible rfl)
      (try simp only [Act.put, List.setIfInBounds_toArray, List.set_cons_zero, List.set_cons_succ])
      refine Draws.take 12 (v := ?v110) HQ.out rfl (by kernel_rfl) (fun _ _ _ h => h) (Or.inl ⟨rfl, ?h110⟩) ?r110
      case h110 => intro w' hw'; go_simp; (try with_reducible rfl)
      (try simp only [Act.put, List.setIfInBounds_toArray, List.set_cons_zero, List.set_cons_succ])
      refine Draws.take 13 HQ.out rfl (by kernel_rfl) (fun _ _ _ h => h) (yield_all (fun _ h => h) 0 288 Try.underlying26 rfl r_info rfl _ rfl rfl rfl HJ.out) ?_
      (try simp only [Act.put, List.setIfInBounds_toArray, List.set_cons_zero, List.set_cons_succ])
      refine Draws.take 14 (v := ?v111) HQ.out rfl (by kernel_rfl) (fun _ _ _ h => h) (Or.inl ⟨rfl, ?h111⟩) ?r111
      case h111 => intro w' hw'; go_simp; (try with_reducible rfl)
      (try simp only [Act.put, List.setIfInBounds_toArray, List.set_cons_zero, List.set_cons_succ])
      refine Draws.take 15 (v := ?v112) HQ.out rfl (by kernel_rfl) (fun _ _ _ h => h) (Or.inl ⟨rfl, ?h112⟩) ?r112
      case h112 => intro w' hw'; go_simp; (try with_reducible rfl)
      (try simp only [Act.put, List.setIfInBounds_toArray, List.set_cons_zero, List.set_cons_succ])
      refine Draws.take 16 HQ.out rfl (by kernel_rfl) (fun _ _ _ h => h) (yield_part (fun _ h => h) 1 288 Try.underlying26 rfl r_info rfl _ rfl rfl rfl (by have := HSZ.out; omega)) ?_
      (try simp only [Act.put, List.setIfInBounds_toArray, List.set_cons_zero, List.set_cons_succ])
      refine Draws.take 18 HQ.out rfl (by kernel_rfl) (fun _ _ _ h => h) (yield_all (fun _ h => h) 0 288 Try.underlying26 rfl r_info rfl _ rfl rfl rfl HJ.out) ?_
      (try simp only [Act.put, List.setIfInBounds_toArray, List.set_cons_zero, List.set_cons_succ])
      refine Draws.does 17 rfl (by kernel_rfl) rfl (fun K hK => ?_)
      go_simp
      go_at_call 24
      refine (j2 _).mono ?_
      rintro e u ⟨rfl, hb⟩
      (try dsimp only)
      refine hK.out _ _ (fun _ => HQ.out.call hb) ?_
      clear hK K
      have hs : (fun u => KeepR w [(b8, 26, J), (b7, 42, S)] u) u := HQ.out.call hb
      clear HQ
      have HQ := Lib.hid hs; clear hs
      (try simp only [Act.put, List.setIfInBounds_toArray, List.set_cons_zero, List.set_cons_succ])
      clear hb
      refine Draws.take 19 (v := ?v113) HQ.out rfl (by kernel_rfl) (fun _ _ _ h => h) (Or.inl ⟨rfl, ?h113⟩) ?r113
      case h113 => intro w' hw'; go_simp; (try with_reducible rfl)
      (try simp only [Act.put, List.setIfInBounds_toArray, List.set_cons_zero, List.set_cons_succ])
      refine Draws.take 20 (v := ?v114) HQ.out rfl (by kernel_rfl) (fun _ _ _ h => h) (Or.inl ⟨rfl, ?h114⟩) ?r114
      case h114 => intro w' hw'; go_simp; (try with_reducible rfl)
      (try simp only [Act.put, List.setIfInBounds_toArray, List.set_cons_zero, List.set_cons_succ])
      refine Draws.take 21 (v := ?v115) HQ.out rfl (by kernel_rfl) (fun _ _ _ h => h) (Or.inl ⟨rfl, ?h115⟩) ?r115
      case h115 => intro w' hw'; go_simp; (try with_reducible rfl)
      (try simp only [Act.put, List.setIfInBounds_toArray, List.set_cons_zero, List.set_cons_succ])
      refine Draws.take 22 (v := ?v116) HQ.out rfl (by kernel_rfl) (fun _ _ _ h => h) (Or.inl ⟨rfl, ?h116⟩) ?r116
      case h116 => intro w' hw'; go_simp; (try with_reducible rfl)
      (try simp only [Act.put, List.setIfInBounds_toArray, List.set_cons_zero, List.set_cons_succ])
      refine Draws.take 23 (v := ?v117) HQ.out rfl (by kernel_rfl) (fun _ _ _ h => h) (Or.inl ⟨rfl, ?h117⟩) ?r117
      case h117 => intro w' hw'; go_simp; (try with_reducible rfl)
      (try simp only [Act.put, List.setIfInBounds_toArray, List.set_cons_zero, List.set_cons_succ])
      refine Draws.take 24 (v := ?v118) HQ.out rfl (by kernel_rfl) (fun _ _ _ h => h) (Or.inl ⟨rfl, ?h118⟩) ?r118
      case h118 => intro w' hw'; go_simp; (try with_reducible rfl)
      (try simp only [Act.put, List.setIfInBounds_toArray, List.set_cons_zero, List.set_cons_succ])
      refine Draws.take 25 (v := ?v119) HQ.out rfl (by kernel_rfl) (fun _ _ _ h => h) (Or.inl ⟨rfl, ?h119⟩) ?r119
      case h119 => intro w' hw'; go_simp; (try with_reducible rfl)
      (try simp only [Act.put, List.setIfInBounds_toArray, List.set_cons_zero, List.set_cons_succ])
      refine Draws.take 26 (v := ?v120) HQ.out rfl (by kernel_rfl) (fun _ _ _ h => h) (Or.inl ⟨rfl, ?h120⟩) ?r120
      case h120 => intro w' hw'; go_simp; (try with_reducible rfl)
      (try simp only [Act.put, List.setIfInBounds_toArray, List.set_cons_zero, List.set_cons_succ])
      refine Draws.take 27 (v := ?v121) HQ.out rfl (by kernel_rfl) (fun _ _ _ h => h) (Or.inl ⟨rfl, ?h121⟩) ?r121
      case h121 => intro w' hw'; go_simp; (try with_reducible rfl)
      (try simp only [Act.put, List.setIfInBounds_toArray, List.set_cons_zero, List.set_cons_succ])
      refine Draws.take 28 (v := ?v122) HQ.out rfl (by kernel_rfl) (fun _ _ _ h => h) (Or.inl ⟨rfl, ?h122⟩) ?r122
      case h122 => intro w' hw'; go_simp; (try with_reducible rfl)
      (try simp only [Act.put, List.setIfInBounds_toArray, List.set_cons_zero, List.set_cons_succ])
      refine Draws.take 29 (v := ?v123) HQ.out rfl (by kernel_rfl) (fun _ _ _ h => h) (Or.inl ⟨rfl, ?h123⟩) ?r123
      case h123 => intro w' hw'; go_simp; (try with_reducible rfl)
      (try simp only [Act.put, List.setIfInBounds_toArray, List.set_cons_zero, List.set_cons_succ])
      refine Draws.take 30 (v := ?v124) HQ.out rfl (by kernel_rfl) (fun _ _ _ h => h) (Or.inl ⟨rfl, ?h124⟩) ?r124
      case h124 => intro w' hw'; go_simp; (try with_reducible rfl)
      (try simp only [Act.put, List.setIfInBounds_toArray, List.set_cons_zero, List.set_cons_succ])
      refine Draws.take 31 (v := ?v125) HQ.out rfl (by kernel_rfl) (fun _ _ _ h => h) (Or.inl ⟨rfl, ?h125⟩) ?r125
      case h125 => intro w' hw'; go_simp; (try with_reducible rfl)
      (try simp only [Act.put, List.setIfInBounds_toArray, List.set_cons_zero, List.set_cons_succ])
      refine Draws.take 32 (v := ?v126) HQ.out rfl (by kernel_rfl) (fun _ _ _ h => h) (Or.inl ⟨rfl, ?h126⟩) ?r126
      case h126 => intro w' hw'; go_simp; (try with_reducible rfl)
      (try simp only [Act.put, List.setIfInBounds_toArray, List.set_cons_zero, List.set_cons_succ])
      refine Draws.take 33 (v := ?v127) HQ.out rfl (by kernel_rfl) (fun _ _ _ h => h) (Or.inl ⟨rfl, ?h127⟩) ?r127
      case h127 => intro w' hw'; go_simp; (try with_reducible rfl)
      (try simp only [Act.put, List.setIfInBounds_toArray, List.set_cons_zero, List.set_cons_succ])
      refine Draws.take 34 (v := ?v128) HQ.out rfl (by kernel_rfl) (fun _ _ _ h => h) (Or.inl ⟨rfl, ?h128⟩) ?r128
      case h128 => intro w' hw'; go_simp; (try with_reducible rfl)
      (try simp only [Act.put, List.setIfInBounds_toArray, List.set_cons_zero, List.set_cons_succ])
      refine Draws.take 35 (v := ?v129) HQ.out rfl (by kernel_rfl) (fun _ _ _ h => h) (Or.inl ⟨rfl, ?h129⟩) ?r129
      case h129 => intro w' hw'; go_simp; (try with_reducible rfl)
      (try simp only [Act.put, List.setIfInBounds_toArray, List.set_cons_zero, List.set_cons_succ])
      refine Draws.take 36 (v := ?v130) HQ.out rfl (by kernel_rfl) (fun _ _ _ h => h) (Or.inl ⟨rfl, ?h130⟩) ?r130
      case h130 => intro w' hw'; go_simp; (try with_reducible rfl)
      (try simp only [Act.put, List.setIfInBounds_toArray, List.set_cons_zero, List.set_cons_succ])
      refine Draws.take 37 (v := ?v131) HQ.out rfl (by kernel_rfl) (fun _ _ _ h => h) (Or.inl ⟨rfl, ?h131⟩) ?r131
      case h131 => intro w' hw'; go_simp; (try with_reducible rfl)
      (try simp only [Act.put, List.setIfInBounds_toArray, List.set_cons_zero, List.set_cons_succ])
      refine Draws.take 38 (v := ?v132) HQ.out rfl (by kernel_rfl) (fun _ _ _ h => h) (Or.inl ⟨rfl, ?h132⟩) ?r132
      case h132 => intro w' hw'; have hc := (hw'.get 0 rfl).cell (k := 16 + a) (by have := HJ.out; omega); go_simp; (try with_reducible rfl)
      (try simp only [Act.put, List.setIfInBounds_toArray, List.set_cons_zero, List.set_cons_succ])
      refine Draws.take 39 (v := ?v133) HQ.out rfl (by kernel_rfl) (fun _ _ _ h => h) (Or.inl ⟨rfl, ?h133⟩) ?r133
      case h133 => intro w' hw'; go_simp; (try with_reducible rfl)
      (try simp only [Act.put, List.setIfInBounds_toArray, List.set_cons_zero, List.set_cons_succ])
      refine Draws.take 40 (v := ?v134) HQ.out rfl (by kernel_rfl) (fun _ _ _ h => h) (Or.inl ⟨rfl, ?h134⟩) ?r134
      case h134 => intro w' hw'; go_simp; (try with_reducible rfl)
      (try simp only [Act.put, List.setIfInBounds_toArray, List.set_cons_zero, List.set_cons_succ])
      refine Draws.take 41 (v := ?v135) HQ.out rfl (by kernel_rfl) (fun _ _ _ h => h) (Or.inl ⟨rfl, ?h135⟩) ?r135
      case h135 => intro w' hw'; go_simp; (try with_reducible rfl)
      (try simp only [Act.put, List.setIfInBounds_toArray, List.set_cons_zero, List.set_cons_succ])
      refine Draws.take 42 (v := ?v136) HQ.out rfl (by kernel_rfl) (fun _ _ _ h => h) (Or.inl ⟨rfl, ?h136⟩) ?r136
      case h136 => intro w' hw'; go_simp; (try with_reducible rfl)
      (try simp only [Act.put, List.setIfInBounds_toArray, List.set_cons_zero, List.set_cons_succ])
      refine Draws.take 43 (v := ?v137) HQ.out rfl (by kernel_rfl) (fun _ _ _ h => h) (Or.inl ⟨rfl, ?h137⟩) ?r137
      case h137 => intro w' hw'; go_simp; (try with_reducible rfl)
      (try simp only [Act.put, List.setIfInBounds_toArray, List.set_cons_zero, List.set_cons_succ])
      refine Draws.take 44 (v := ?v138) HQ.out rfl (by kernel_rfl) (fun _ _ _ h => h) (Or.inl ⟨rfl, ?h138⟩) ?r138
      case h138 => intro w' hw'; have hc := (hw'.get 1 rfl).cell (k := a * 288 + 16 + a) (by have := HSZ.out; omega); rw [Nat.add_assoc, HX2.out] at hc; rw [← Nat.add_assoc] at hc; go_simp; (try with_reducible rfl)
      (try simp only [Act.put, List.setIfInBounds_toArray, List.set_cons_zero, List.set_cons_succ])
      refine Draws.take 45 (v := ?v139) HQ.out rfl (by kernel_rfl) (fun _ _ _ h => h) (Or.inl ⟨rfl, ?h139⟩) ?r139
      case h139 => intro w' hw'; go_simp; (try with_reducible rfl)
      (try simp only [Act.put, List.setIfInBounds_toArray, List.set_cons_zero, List.set_cons_succ])
      refine Draws.take 46 (v := ?v140) HQ.out rfl (by kernel_rfl) (fun _ _ _ h => h) (Or.inl ⟨rfl, ?h140⟩) ?r140
      case h140 => intro w' hw'; go_simp; (try with_reducible rfl)
      (try simp only [Act.put, List.setIfInBounds_toArray, List.set_cons_zero, List.set_cons_succ])
      refine Draws.take 47 (v := ?v141) HQ.out rfl (by kernel_rfl) (fun _ _ _ h => h) (Or.inl ⟨rfl, ?h141⟩) ?r141
      case h141 => intro w' hw'; go_simp; (try with_reducible rfl)
      (try simp only [Act.put, List.setIfInBounds_toArray, List.set_cons_zero, List.set_cons_succ])
      refine Draws.take 48 (v := ?v142) HQ.out rfl (by kernel_rfl) (fun _ _ _ h => h) (Or.inl ⟨rfl, ?h142⟩) ?r142
      case h142 => intro w' hw'; go_simp; (try with_reducible rfl)
      (try simp only [Act.put, List.setIfInBounds_toArray, List.set_cons_zero, List.set_cons_succ])
      refine Draws.take 49 (v := ?v143) HQ.out rfl (by kernel_rfl) (fun _ _ _ h => h) (Or.inl ⟨rfl, ?h143⟩) ?r143
      case h143 => intro w' hw'; go_simp; (try with_reducible rfl)
      (try simp only [Act.put, List.setIfInBounds_toArray, List.set_cons_zero, List.set_cons_succ])
      refine Draws.take 50 (v := ?v144) HQ.out rfl (by kernel_rfl) (fun _ _ _ h => h) (Or.inl ⟨rfl, ?h144⟩) ?r144
      case h144 => intro w' hw'; go_simp; (try with_reducible rfl)
      (try simp only [Act.put, List.setIfInBounds_toArray, List.set_cons_zero, List.set_cons_succ])
      refine Draws.take 51 HQ.out rfl (by kernel_rfl) (fun _ _ _ h => h) (yield_part (fun _ h => h) 0 16 Try.underlying23 rfl vec_info rfl _ rfl rfl rfl (by have := HJ.out; omega)) ?_
      (try simp only [Act.put, List.setIfInBounds_toArray, List.set_cons_zero, List.set_cons_succ])
      refine Draws.take 52 (v := ?v145) HQ.out rfl (by kernel_rfl) (fun _ _ _ h => h) (Or.inl ⟨rfl, ?h145⟩) ?r145
      case h145 => intro w' hw'; go_simp; (try with_reducible rfl)
      (try simp only [Act.put, List.setIfInBounds_toArray, List.set_cons_zero, List.set_cons_succ])
      refine Draws.take 53 (v := ?v146) HQ.out rfl (by kernel_rfl) (fun _ _ _ h => h) (Or.inl ⟨rfl, ?h146⟩) ?r146
      case h146 => intro w' hw'; go_simp; (try with_reducible rfl)
      (try simp only [Act.put, List.setIfInBounds_toArray, List.set_cons_zero, List.set_cons_succ])
      refine Draws.take 54 (v := ?v147) HQ.out rfl (by kernel_rfl) (fun _ _ _ h => h) (Or.inl ⟨rfl, ?h147⟩) ?r147
      case h147 => intro w' hw'; go_simp; (try with_reducible rfl)
      (try simp only [Act.put, List.setIfInBounds_toArray, List.set_cons_zero, List.set_cons_succ])
      refine Draws.take 55 (v := ?v148) HQ.out rfl (by kernel_rfl) (fun _ _ _ h => h) (Or.inl ⟨rfl, ?h148⟩) ?r148
      case h148 => intro w' hw'; go_simp; (try with_reducible rfl)
      (try simp only [Act.put, List.setIfInBounds_toArray, List.set_cons_zero, List.set_cons_succ])
      refine Draws.take 56 (v := ?v149) HQ.out rfl (by kernel_rfl) (fun _ _ _ h => h) (Or.inl ⟨rfl, ?h149⟩) ?r149
      case h149 => intro w' hw'; go_simp; (try with_reducible rfl)
      (try simp only [Act.put, List.setIfInBounds_toArray, List.set_cons_zero, List.set_cons_succ])
      refine Draws.take 57 HQ.out rfl (by kernel_rfl) (fun _ _ _ h => h) (yield_eq HRW.out (yield_part (fun _ h => h) 1 16 Try.underlying23 rfl vec_info rfl _ rfl rfl rfl (by have := HSZ.out; omega))) ?_
      (try simp only [Act.put, List.setIfInBounds_toArray, List.set_cons_zero, List.set_cons_succ])
      refine Draws.take 58 (v := ?v150) HQ.out rfl (by kernel_rfl) (fun _ _ _ h => h) (Or.inl ⟨rfl, ?h150⟩) ?r150
      case h150 => intro w' hw'; go_simp; (try with_reducible rfl)
      (try simp only [Act.put, List.setIfInBounds_toArray, List.set_cons_zero, List.set_cons_succ])
      refine Draws.take 59 (v := ?v151) HQ.out rfl (by kernel_rfl) (fun _ _ _ h => h) (Or.inl ⟨rfl, ?h151⟩) ?r151
      case h151 => intro w' hw'; go_simp; (try with_reducible rfl)
      (try simp only [Act.put, List.setIfInBounds_toArray, List.set_cons_zero, List.set_cons_succ])
      refine Draws.take 60 (v := ?v152) HQ.out rfl (by kernel_rfl) (fun _ _ _ h => h) (Or.inl ⟨rfl, ?h152⟩) ?r152
      case h152 => intro w' hw'; go_simp; (try with_reducible rfl)
      (try simp only [Act.put, List.setIfInBounds_toArray, List.set_cons_zero, List.set_cons_succ])
      refine Draws.does 61 rfl (by kernel_rfl) rfl (fun K hK => ?_)
      go_simp
      go_at_call 17
      refine (awake3 _).mono ?_
      rintro e u ⟨rfl, hb⟩
      (try dsimp only)
      refine hK.out _ _ (fun _ => HQ.out.call hb) ?_
      clear hK K
      have hs : (fun u => KeepR w [(b8, 26, J), (b7, 42, S)] u) u := HQ.out.call hb
      clear HQ
      have HQ := Lib.hid hs; clear hs
      (try simp only [Act.put, List.setIfInBounds_toArray, List.set_cons_zero, List.set_cons_succ])
      clear hb
      refine Draws.take 62 (v := ?v153) HQ.out rfl (by kernel_rfl) (fun _ _ _ h => h) (Or.inl ⟨rfl, ?h153⟩) ?r153
      case h153 => intro w' hw'; go_simp; (try with_reducible rfl)
      (try simp only [Act.put, List.setIfInBounds_toArray, List.set_cons_zero, List.set_cons_succ])
      refine Draws.take 63 (v := ?v154) HQ.out rfl (by kernel_rfl) (fun _ _ _ h => h) (Or.inl ⟨rfl, ?h154⟩) ?r154
      case h154 => intro w' hw'; go_simp; (try with_reducible rfl)
      (try simp only [Act.put, List.setIfInBounds_toArray, List.set_cons_zero, List.set_cons_succ])
      refine Draws.done (by kernel_rfl) ?_
      go_wp2
      go_ret
      exact ⟨rfl, HQ.out.bel⟩

set_option maxRecDepth 100000 in
theorem lifted (os : Os) (started : os.Started) (H : Type) (enc : TypeId × Value → H) :
    ReturnsInHanded {} Try.checked os 10 .any (Rows.rightsHeardSpec.pre6 enc Try.prog Try.f10 Rows.rightsHeardRow.domain false) (Rows.rightsHeardSpec.post enc Try.prog Try.f10 false true false false) := by
  refine returnsInHanded_of_change (C := Try.checked) own started (by kernel_rfl) Try.func10
    (ChangeSpec.witness6 (enc := enc) (C := Try.checked) false ⟨#[], #[.slice none 0 0, .int .i64 0, .int .i64 0], []⟩ 12 (by kernel_rfl) (by kernel_rfl) (by kernel_rfl) (by kernel_rfl)) ?_
  intro W base args ds gs before hval0 hW hcnd _
  have hval : ∀ (j : Nat) t v, Try.f10.params[j]? = some t → args[j]? = some v → Value.okWide Try.prog W .any base t v := hval0
  have hW' := hW
  obtain ⟨p, q, hA0, hV, rfl, hfz, hnd⟩ := hW
  have hA : DataW.TrodAll enc Try.prog W 0 (fun _ => true) true Try.f10.params.toList args.toList ds p := hA0
  rw [Try.params10] at hA hval
  obtain ⟨v0, vs0, d0, ds0, p0, q0, hargs, rfl, rfl, h0, r0⟩ := trodAll_cons hA
  obtain ⟨v1, vs1, d1, ds1, p1, q1, rfl, rfl, rfl, h1, r1⟩ := trodAll_cons r0
  obtain ⟨v2, vs2, d2, ds2, p2, q2, rfl, rfl, rfl, h2, r2⟩ := trodAll_cons r1
  obtain ⟨rfl, rfl, rfl⟩ := trodAll_nil r2
  obtain rfl : args = #[v0, v1, v2] := by cases args; simp_all
  obtain ⟨rfl, rfl⟩ := trodVars_none hV
  have k0 := h0
  have lt0 : ∀ x ∈ p0, x.block < W.heap.size := by obtain ⟨m, hm⟩ := k0; exact DataW.trod_lt m _ _ _ hm
  obtain ⟨A0, n0, c0, x0, rfl, hd0⟩ := open_steps (hval 0 41 v0 rfl rfl) h0
  have k1 := h1
  have lt1 : ∀ x ∈ p1, x.block < W.heap.size := by obtain ⟨m, hm⟩ := k1; exact DataW.trod_lt m _ _ _ hm
  obtain ⟨a1, rfl, rfl, rfl, w1⟩ := open_int Try.underlying3 (hval 1 3 v1 rfl rfl) h1
  have k2 := h2
  have lt2 : ∀ x ∈ p2, x.block < W.heap.size := by obtain ⟨m, hm⟩ := k2; exact DataW.trod_lt m _ _ _ hm
  obtain ⟨a2, rfl, rfl, rfl, w2⟩ := open_int Try.underlying3 (hval 2 3 v2 rfl rfl) h2
  clear hA0 hval0
  refine (walk W A0 n0 c0 x0 hd0 a1 w1 a2 w2).mono fun e W' ⟨he, bel⟩ => ?_
  subst he
  exact ⟨_, rfl, _, _, _, [], _, [], hW', trodAll_mk1 (shut_bool Try.underlying4 _), (trodAll_cons_mk (Below.trod laidOut (by kernel_rfl) (of_decide_eq_true (by kernel_rfl)) k0 bel lt0) (trodAll_cons_mk (Below.trod laidOut (by kernel_rfl) (of_decide_eq_true (by kernel_rfl)) k1 bel lt1) (trodAll_cons_mk (Below.trod laidOut (by kernel_rfl) (of_decide_eq_true (by kernel_rfl)) k2 bel lt2) trodAll_mk0))), rfl, bel.frame _, fun h => by cases h⟩

theorem over : Rows.rightsHeardRow.holds Try.pinned (OpenSpec.ofChange Rows.rightsHeardSpec) :=
  OpenClaim.holds_of_wide 10 Try.f10 rfl rfl rfl rfl rfl rfl rfl ⟨rfl, rfl, rfl, rfl, rfl⟩ rfl rfl rfl rfl rfl (by kernel_rfl) Try.func10 (by kernel_rfl)
    (of_decide_eq_true (by kernel_rfl)) (by unfold Func.isWrapper; first | (rw [if_pos (by decide +kernel)]; kernel_rfl) | (rw [if_neg (by decide +kernel)]; exact ⟨rfl, rfl⟩))
    (fun os started H enc _ => lifted os started H enc)

theorem proved : Rows.RightsHeardSaid := over
#print axioms proved
end Go.Proofs.Ytpbjencigepnfaa.rightsHeard
