/- Contracts of the document's Use and Move. -/
import Derived.Test.YtpbjencigepnfaaRFree
import Derived.Test.YtpbjencigepnfaaUse
namespace Go.Proofs.Ytpbjencigepnfaa
open Go.ChangeShapes Go.WideShapes Go.ChangeAt Go.RowKit

theorem free_rep {R : List Int} {k : Int} (h : freeE R k = 0) : repB k = true := by
  cases hr : repB k with
  | true => rfl
  | false => rw [(free_no hr).2] at h; cases h
theorem preU_bad {R : List Int} {k n : Int} (hn : 0 ≤ n) (h : freeE R k ≠ 0) : preU R k n = freeE R k := by
  cases hr : repB k with
  | true => unfold preU; rw [if_pos ⟨hr, hn⟩]; unfold coverE; rw [if_neg (fun h2 => h h2.1)]
  | false => unfold preU; rw [if_neg (by simp [hr]), (free_no hr).2]
theorem cover_more {R : List Int} {k n : Int} (h : freeE R k = 0) (hf : freeN R k < n) : coverE R k n = 8 := by unfold coverE; rw [if_pos ⟨h, hf⟩]
theorem cover_ok {R : List Int} {k n : Int} (h : freeE R k = 0) (hf : ¬ freeN R k < n) : coverE R k n = 0 := by unfold coverE; rw [if_neg (fun h2 => hf h2.2), h]
theorem grA_ok {R : List Int} {o : Nat} {k n : Int} (h : grE R o k n = 0) : grA R o k n = splice R o (growL (seg R o 16) k n) := by unfold grA; rw [h, toldR_ok]
theorem grA_no {R : List Int} {o : Nat} {k n : Int} (h : grE R o k n ≠ 0) : grA R o k n = zer 288 := by unfold grA; rw [toldR_no _ h]

theorem ruse_any (R : List Int) (hR : R.length = 288) (k n : Int) (w : World) :
    Calls Try.prog 21 #[.agg (vals R).toArray, .int .i64 k, .int .i64 n] w fun e w' => e = .returned (.tuple #[.agg (vals (useA R k n)).toArray, .int .i64 (useE R k n)]) ∧ Below w.heap.size w w' := by
  have hf := rfree_any R hR k
  have HR := Lib.hid hR; clear hR
  have HK := Lib.hid (KeepR.start w)
  by_cases hn : n < 0
  · obtain ⟨e1, e2⟩ := use_no (R := R) (k := k) (n := n) (x := 1) (by unfold preU; rw [if_neg (by omega)]) (by omega)
    rw [e1, e2]; clear e1 e2 hf
    go_enter Try.func21, Try.ntmps21
    go_wp2_with (first
      | (with_reducible refine box_new HK.out rfl _ rfl rfl ?_; intro b u hk hb; clear hb; clear HK; have HK := Lib.hid hk; clear hk)
      | (with_reducible refine alloc_zero HK.out 288 r_zero rfl rfl ?_; intro b u hn hk hb; clear hn; clear hb; clear HK; have HK := Lib.hid hk; clear hk)
      | (with_reducible refine build_zero 288 r_build rfl rfl ?_)
      | (with_reducible refine store_all HK.out 0 288 r_info rfl rfl _ _ rfl rfl rfl rfl (zer_length 288) (zer_length 288) ?_; intro u hk hs; clear hs; simp only [List.set_cons_zero] at hk; clear HK; have HK := Lib.hid hk; clear hk)
      | (with_reducible refine load_all HK.out 1 288 Try.underlying26 rfl r_info rfl _ rfl rfl rfl HR.out ?_)
      | (go_at_call 12; (with_reducible refine (hf _).mono ?_); rintro e u ⟨rfl, hb⟩; have hk := HK.out.call hb; clear hb; clear HK; have HK := Lib.hid hk; clear hk))
    exact bodyPost_ret (results_r2 rfl _ HK.out 0 _ rfl rfl rfl (zer_length 288)) rfl ⟨rfl, HK.out.bel⟩
  · by_cases h0 : freeE R k = 0
    · have hp : preU R k n = coverE R k n := by unfold preU; rw [if_pos ⟨free_rep h0, by omega⟩]
      by_cases h1 : freeN R k < n
      · obtain ⟨e1, e2⟩ := use_no (x := 8) (hp.trans (cover_more h0 h1)) (by omega)
        rw [e1, e2]
        rw [h0] at hf
        generalize freeN R k = f at h1 hf
        clear e1 e2 h0
        go_enter Try.func21, Try.ntmps21
        go_wp2_with (first
          | (with_reducible refine box_new HK.out rfl _ rfl rfl ?_; intro b u hk hb; clear hb; clear HK; have HK := Lib.hid hk; clear hk)
          | (with_reducible refine alloc_zero HK.out 288 r_zero rfl rfl ?_; intro b u hn hk hb; clear hn; clear hb; clear HK; have HK := Lib.hid hk; clear hk)
          | (with_reducible refine build_zero 288 r_build rfl rfl ?_)
          | (with_reducible refine store_all HK.out 0 288 r_info rfl rfl _ _ rfl rfl rfl rfl (zer_length 288) (zer_length 288) ?_; intro u hk hs; clear hs; simp only [List.set_cons_zero] at hk; clear HK; have HK := Lib.hid hk; clear hk)
          | (with_reducible refine load_all HK.out 1 288 Try.underlying26 rfl r_info rfl _ rfl rfl rfl HR.out ?_)
          | (go_at_call 12; (with_reducible refine (hf _).mono ?_); rintro e u ⟨rfl, hb⟩; have hk := HK.out.call hb; clear hb; clear HK; have HK := Lib.hid hk; clear hk))
        exact bodyPost_ret (results_r2 rfl _ HK.out 0 _ rfl rfl rfl (zer_length 288)) rfl ⟨rfl, HK.out.bel⟩
      · obtain ⟨e1, e2⟩ := use_yes (hp.trans (cover_ok h0 h1))
        rw [e1, e2]
        rw [h0] at hf
        generalize freeN R k = f at h1 hf
        clear e1 e2 h0
        have hg := rgrow_any (seg R (16) 16) k n (seg_length (by have := HR.out; omega))
        rw [show growE (seg R (16) 16) k n = grE R (16) k n from rfl] at hg
        have HS := Lib.hid (seg_length (R := R) (o := 16) (n := 16) (by have := HR.out; omega))
        have HT := Lib.hid (splice_length (growL (seg R (16) 16) k n) R (16))
        by_cases hx : grE R (16) k n = 0
        · rw [grA_ok hx, hx]
          rw [hx] at hg
          clear hx
          go_enter Try.func21, Try.ntmps21
          go_wp2_with (first
            | (with_reducible refine box_new HK.out rfl _ rfl rfl ?_; intro b u hk hb; clear hb; clear HK; have HK := Lib.hid hk; clear hk)
            | (with_reducible refine alloc_zero HK.out 288 r_zero rfl rfl ?_; intro b u hn hk hb; clear hn; clear hb; clear HK; have HK := Lib.hid hk; clear hk)
            | (with_reducible refine alloc_zero HK.out 16 v_zero rfl rfl ?_; intro b u hn hk hb; clear hn; clear hb; clear HK; have HK := Lib.hid hk; clear hk)
            | (with_reducible refine build_zero 288 r_build rfl rfl ?_)
            | (with_reducible refine load_all HK.out 1 288 Try.underlying26 rfl r_info rfl _ rfl rfl rfl HR.out ?_)
            | (go_at_call 12; (with_reducible refine (hf _).mono ?_); rintro e u ⟨rfl, hb⟩; have hk := HK.out.call hb; clear hb; clear HK; have HK := Lib.hid hk; clear hk)
            | (with_reducible refine load_part HK.out 1 16 Try.underlying23 rfl vec_info rfl _ rfl rfl rfl (by have := HR.out; omega) ?_)
            | (go_at_call 39; (with_reducible refine (hg _).mono ?_); rintro e u ⟨rfl, hb⟩; have hk := HK.out.call hb; clear hb; clear HK; have HK := Lib.hid hk; clear hk)
            | (with_reducible refine store_all HK.out 0 16 vec_info rfl rfl _ _ rfl rfl rfl rfl (growL_length HS.out _ _) (zer_length 16) ?_; intro u hk hs; clear hs; simp only [List.set_cons_zero] at hk; clear HK; have HK := Lib.hid hk; clear hk)
            | (with_reducible refine load_all HK.out 0 16 Try.underlying23 rfl vec_info rfl _ rfl rfl rfl (growL_length HS.out _ _) ?_)
            | (with_reducible refine store_part HK.out 2 16 vec_info rfl rfl _ _ rfl rfl rfl rfl (growL_length HS.out _ _) (by have := HR.out; omega) ?_; intro u hk hs; clear hs; simp only [List.set_cons_zero, List.set_cons_succ] at hk; clear HK; have HK := Lib.hid hk; clear hk)
            | (with_reducible refine load_all HK.out 2 288 Try.underlying26 rfl r_info rfl _ rfl rfl rfl (by rw [HT.out]; exact HR.out) ?_)
            | (with_reducible refine store_all HK.out 1 288 r_info rfl rfl _ _ rfl rfl rfl rfl (by rw [HT.out]; exact HR.out) (zer_length 288) ?_; intro u hk hs; clear hs; simp only [List.set_cons_zero, List.set_cons_succ] at hk; clear HK; have HK := Lib.hid hk; clear hk)
            | (with_reducible refine store_all HK.out 1 288 r_info rfl rfl _ _ rfl rfl rfl rfl (zer_length 288) (zer_length 288) ?_; intro u hk hs; clear hs; simp only [List.set_cons_zero, List.set_cons_succ] at hk; clear HK; have HK := Lib.hid hk; clear hk))
          exact bodyPost_ret (results_r2 rfl _ HK.out 1 _ rfl rfl rfl (by rw [HT.out]; exact HR.out)) rfl ⟨rfl, HK.out.bel⟩
        · rw [grA_no hx]
          generalize grE R (16) k n = x at hx hg
          go_enter Try.func21, Try.ntmps21
          go_wp2_with (first
            | (with_reducible refine box_new HK.out rfl _ rfl rfl ?_; intro b u hk hb; clear hb; clear HK; have HK := Lib.hid hk; clear hk)
            | (with_reducible refine alloc_zero HK.out 288 r_zero rfl rfl ?_; intro b u hn hk hb; clear hn; clear hb; clear HK; have HK := Lib.hid hk; clear hk)
            | (with_reducible refine alloc_zero HK.out 16 v_zero rfl rfl ?_; intro b u hn hk hb; clear hn; clear hb; clear HK; have HK := Lib.hid hk; clear hk)
            | (with_reducible refine build_zero 288 r_build rfl rfl ?_)
            | (with_reducible refine load_all HK.out 1 288 Try.underlying26 rfl r_info rfl _ rfl rfl rfl HR.out ?_)
            | (go_at_call 12; (with_reducible refine (hf _).mono ?_); rintro e u ⟨rfl, hb⟩; have hk := HK.out.call hb; clear hb; clear HK; have HK := Lib.hid hk; clear hk)
            | (with_reducible refine load_part HK.out 1 16 Try.underlying23 rfl vec_info rfl _ rfl rfl rfl (by have := HR.out; omega) ?_)
            | (go_at_call 39; (with_reducible refine (hg _).mono ?_); rintro e u ⟨rfl, hb⟩; have hk := HK.out.call hb; clear hb; clear HK; have HK := Lib.hid hk; clear hk)
            | (with_reducible refine store_all HK.out 0 16 vec_info rfl rfl _ _ rfl rfl rfl rfl (growL_length HS.out _ _) (zer_length 16) ?_; intro u hk hs; clear hs; simp only [List.set_cons_zero] at hk; clear HK; have HK := Lib.hid hk; clear hk)
            | (with_reducible refine load_all HK.out 0 16 Try.underlying23 rfl vec_info rfl _ rfl rfl rfl (growL_length HS.out _ _) ?_)
            | (with_reducible refine store_part HK.out 2 16 vec_info rfl rfl _ _ rfl rfl rfl rfl (growL_length HS.out _ _) (by have := HR.out; omega) ?_; intro u hk hs; clear hs; simp only [List.set_cons_zero, List.set_cons_succ] at hk; clear HK; have HK := Lib.hid hk; clear hk)
            | (with_reducible refine load_all HK.out 2 288 Try.underlying26 rfl r_info rfl _ rfl rfl rfl (by rw [HT.out]; exact HR.out) ?_)
            | (with_reducible refine store_all HK.out 1 288 r_info rfl rfl _ _ rfl rfl rfl rfl (by rw [HT.out]; exact HR.out) (zer_length 288) ?_; intro u hk hs; clear hs; simp only [List.set_cons_zero, List.set_cons_succ] at hk; clear HK; have HK := Lib.hid hk; clear hk)
            | (with_reducible refine store_all HK.out 1 288 r_info rfl rfl _ _ rfl rfl rfl rfl (zer_length 288) (zer_length 288) ?_; intro u hk hs; clear hs; simp only [List.set_cons_zero, List.set_cons_succ] at hk; clear HK; have HK := Lib.hid hk; clear hk))
          exact bodyPost_ret (results_r2 rfl _ HK.out 1 _ rfl rfl rfl (zer_length 288)) rfl ⟨rfl, HK.out.bel⟩
    · obtain ⟨e1, e2⟩ := use_no (preU_bad (n := n) (by omega) h0) h0
      rw [e1, e2]
      generalize freeN R k = f at hf
      generalize freeE R k = x at h0 hf
      clear e1 e2
      go_enter Try.func21, Try.ntmps21
      go_wp2_with (first
        | (with_reducible refine box_new HK.out rfl _ rfl rfl ?_; intro b u hk hb; clear hb; clear HK; have HK := Lib.hid hk; clear hk)
        | (with_reducible refine alloc_zero HK.out 288 r_zero rfl rfl ?_; intro b u hn hk hb; clear hn; clear hb; clear HK; have HK := Lib.hid hk; clear hk)
        | (with_reducible refine build_zero 288 r_build rfl rfl ?_)
        | (with_reducible refine store_all HK.out 0 288 r_info rfl rfl _ _ rfl rfl rfl rfl (zer_length 288) (zer_length 288) ?_; intro u hk hs; clear hs; simp only [List.set_cons_zero] at hk; clear HK; have HK := Lib.hid hk; clear hk)
        | (with_reducible refine load_all HK.out 1 288 Try.underlying26 rfl r_info rfl _ rfl rfl rfl HR.out ?_)
        | (go_at_call 12; (with_reducible refine (hf _).mono ?_); rintro e u ⟨rfl, hb⟩; have hk := HK.out.call hb; clear hb; clear HK; have HK := Lib.hid hk; clear hk))
      exact bodyPost_ret (results_r2 rfl _ HK.out 0 _ rfl rfl rfl (zer_length 288)) rfl ⟨rfl, HK.out.bel⟩

set_option maxHeartbeats 1000000 in
theorem rmove_any (R : List Int) (hR : R.length = 288) (i k n : Int) (w : World) :
    Calls Try.prog 23 #[.agg (vals R).toArray, .int .i64 i, .int .i64 k, .int .i64 n] w fun e w' => e = .returned (.tuple #[.agg (vals (moveA R i k n)).toArray, .int .i64 (moveE R i k n)]) ∧ Below w.heap.size w w' := by
  have hf := rfree_any R hR i
  have HR := Lib.hid hR; clear hR
  have HK := Lib.hid (KeepR.start w)
  by_cases hg : repB i = true ∧ repB k = true ∧ i ≠ k ∧ 0 ≤ n
  · obtain ⟨hri, hrk, hik, hn0⟩ := hg
    have hp : preM R i k n = coverE R i n := by unfold preM; rw [if_pos ⟨hri, hrk, hik, hn0⟩]
    obtain ⟨k0, k1⟩ := repB_iff.1 hrk
    obtain ⟨j, rfl⟩ : ∃ j : Nat, i = j := ⟨i.toNat, by have := repB_iff.1 hri; omega⟩
    have hj : j < 16 := by have := repB_iff.1 hri; omega
    have b1 : ((j : Int) == k) = false := beq_eq_false_iff_ne.2 hik
    have b2 : ((j : Int) != k) = true := by simp [bne, b1]
    have i1 : (0 : Int) ≤ (j : Int) := by omega
    have i2 : (j : Int) < 16 := by omega
    have i3 : ¬ (15 < (j : Int)) := by omega
    have k2 : ¬ (15 < k) := by omega
    have k3 : ¬ (k < 0) := by omega
    have hn : ¬ (n < 0) := by omega
    clear hri hrk
    by_cases h0 : freeE R (j : Int) = 0
    · have hid := hp
      by_cases h1 : freeN R (j : Int) < n
      · obtain ⟨e1, e2⟩ := move_no (x := 8) (hp.trans (cover_more h0 h1)) (by omega)
        rw [e1, e2]
        rw [h0] at hf
        generalize freeN R (j : Int) = f at h1 hf
        clear e1 e2 h0
        go_enter Try.func23, Try.ntmps23
        go_wp2_with (first
          | (with_reducible refine box_new HK.out rfl _ rfl rfl ?_; intro b u hk hb; clear hb; clear HK; have HK := Lib.hid hk; clear hk)
          | (with_reducible refine alloc_zero HK.out 288 r_zero rfl rfl ?_; intro b u hn hk hb; clear hn; clear hb; clear HK; have HK := Lib.hid hk; clear hk)
          | (with_reducible refine build_zero 288 r_build rfl rfl ?_)
          | (with_reducible refine store_all HK.out 0 288 r_info rfl rfl _ _ rfl rfl rfl rfl (zer_length 288) (zer_length 288) ?_; intro u hk hs; clear hs; simp only [List.set_cons_zero] at hk; clear HK; have HK := Lib.hid hk; clear hk)
          | (with_reducible refine load_all HK.out 1 288 Try.underlying26 rfl r_info rfl _ rfl rfl rfl HR.out ?_)
          | (go_at_call 12; (with_reducible refine (hf _).mono ?_); rintro e u ⟨rfl, hb⟩; have hk := HK.out.call hb; clear hb; clear HK; have HK := Lib.hid hk; clear hk))
        exact bodyPost_ret (results_r2 rfl _ HK.out 0 _ rfl rfl rfl (zer_length 288)) rfl ⟨rfl, HK.out.bel⟩
      · obtain ⟨e1, e2⟩ := move_yes (hp.trans (cover_ok h0 h1))
        rw [e1, e2]
        rw [h0] at hf
        generalize freeN R (j : Int) = f at h1 hf
        clear e1 e2 h0
        have hg := rgrow_any (seg R (32 + j * 16) 16) k n (seg_length (by have := HR.out; omega))
        rw [show growE (seg R (32 + j * 16) 16) k n = grE R (32 + j * 16) k n from rfl] at hg
        have HS := Lib.hid (seg_length (R := R) (o := 32 + j * 16) (n := 16) (by have := HR.out; omega))
        have HT := Lib.hid (splice_length (growL (seg R (32 + j * 16) 16) k n) R (32 + j * 16))
        by_cases hx : grE R (32 + j * 16) k n = 0
        · rw [grA_ok hx, hx]
          rw [hx] at hg
          clear hx
          go_enter Try.func23, Try.ntmps23
          go_wp2_with (first
            | (with_reducible refine box_new HK.out rfl _ rfl rfl ?_; intro b u hk hb; clear hb; clear HK; have HK := Lib.hid hk; clear hk)
            | (with_reducible refine alloc_zero HK.out 288 r_zero rfl rfl ?_; intro b u hn hk hb; clear hn; clear hb; clear HK; have HK := Lib.hid hk; clear hk)
            | (with_reducible refine alloc_zero HK.out 16 v_zero rfl rfl ?_; intro b u hn hk hb; clear hn; clear hb; clear HK; have HK := Lib.hid hk; clear hk)
            | (with_reducible refine build_zero 288 r_build rfl rfl ?_)
            | (with_reducible refine load_all HK.out 1 288 Try.underlying26 rfl r_info rfl _ rfl rfl rfl HR.out ?_)
            | (go_at_call 12; (with_reducible refine (hf _).mono ?_); rintro e u ⟨rfl, hb⟩; have hk := HK.out.call hb; clear hb; clear HK; have HK := Lib.hid hk; clear hk)
            | (with_reducible refine load_part HK.out 1 16 Try.underlying23 rfl vec_info rfl _ rfl rfl rfl (by have := HR.out; omega) ?_)
            | (go_at_call 39; (with_reducible refine (hg _).mono ?_); rintro e u ⟨rfl, hb⟩; have hk := HK.out.call hb; clear hb; clear HK; have HK := Lib.hid hk; clear hk)
            | (with_reducible refine store_all HK.out 0 16 vec_info rfl rfl _ _ rfl rfl rfl rfl (growL_length HS.out _ _) (zer_length 16) ?_; intro u hk hs; clear hs; simp only [List.set_cons_zero] at hk; clear HK; have HK := Lib.hid hk; clear hk)
            | (with_reducible refine load_all HK.out 0 16 Try.underlying23 rfl vec_info rfl _ rfl rfl rfl (growL_length HS.out _ _) ?_)
            | (with_reducible refine store_part HK.out 2 16 vec_info rfl rfl _ _ rfl rfl rfl rfl (growL_length HS.out _ _) (by have := HR.out; omega) ?_; intro u hk hs; clear hs; simp only [List.set_cons_zero, List.set_cons_succ] at hk; clear HK; have HK := Lib.hid hk; clear hk)
            | (with_reducible refine load_all HK.out 2 288 Try.underlying26 rfl r_info rfl _ rfl rfl rfl (by rw [HT.out]; exact HR.out) ?_)
            | (with_reducible refine store_all HK.out 1 288 r_info rfl rfl _ _ rfl rfl rfl rfl (by rw [HT.out]; exact HR.out) (zer_length 288) ?_; intro u hk hs; clear hs; simp only [List.set_cons_zero, List.set_cons_succ] at hk; clear HK; have HK := Lib.hid hk; clear hk)
            | (with_reducible refine store_all HK.out 1 288 r_info rfl rfl _ _ rfl rfl rfl rfl (zer_length 288) (zer_length 288) ?_; intro u hk hs; clear hs; simp only [List.set_cons_zero, List.set_cons_succ] at hk; clear HK; have HK := Lib.hid hk; clear hk))
          exact bodyPost_ret (results_r2 rfl _ HK.out 1 _ rfl rfl rfl (by rw [HT.out]; exact HR.out)) rfl ⟨rfl, HK.out.bel⟩
        · rw [grA_no hx]
          generalize grE R (32 + j * 16) k n = x at hx hg
          go_enter Try.func23, Try.ntmps23
          go_wp2_with (first
            | (with_reducible refine box_new HK.out rfl _ rfl rfl ?_; intro b u hk hb; clear hb; clear HK; have HK := Lib.hid hk; clear hk)
            | (with_reducible refine alloc_zero HK.out 288 r_zero rfl rfl ?_; intro b u hn hk hb; clear hn; clear hb; clear HK; have HK := Lib.hid hk; clear hk)
            | (with_reducible refine alloc_zero HK.out 16 v_zero rfl rfl ?_; intro b u hn hk hb; clear hn; clear hb; clear HK; have HK := Lib.hid hk; clear hk)
            | (with_reducible refine build_zero 288 r_build rfl rfl ?_)
            | (with_reducible refine load_all HK.out 1 288 Try.underlying26 rfl r_info rfl _ rfl rfl rfl HR.out ?_)
            | (go_at_call 12; (with_reducible refine (hf _).mono ?_); rintro e u ⟨rfl, hb⟩; have hk := HK.out.call hb; clear hb; clear HK; have HK := Lib.hid hk; clear hk)
            | (with_reducible refine load_part HK.out 1 16 Try.underlying23 rfl vec_info rfl _ rfl rfl rfl (by have := HR.out; omega) ?_)
            | (go_at_call 39; (with_reducible refine (hg _).mono ?_); rintro e u ⟨rfl, hb⟩; have hk := HK.out.call hb; clear hb; clear HK; have HK := Lib.hid hk; clear hk)
            | (with_reducible refine store_all HK.out 0 16 vec_info rfl rfl _ _ rfl rfl rfl rfl (growL_length HS.out _ _) (zer_length 16) ?_; intro u hk hs; clear hs; simp only [List.set_cons_zero] at hk; clear HK; have HK := Lib.hid hk; clear hk)
            | (with_reducible refine load_all HK.out 0 16 Try.underlying23 rfl vec_info rfl _ rfl rfl rfl (growL_length HS.out _ _) ?_)
            | (with_reducible refine store_part HK.out 2 16 vec_info rfl rfl _ _ rfl rfl rfl rfl (growL_length HS.out _ _) (by have := HR.out; omega) ?_; intro u hk hs; clear hs; simp only [List.set_cons_zero, List.set_cons_succ] at hk; clear HK; have HK := Lib.hid hk; clear hk)
            | (with_reducible refine load_all HK.out 2 288 Try.underlying26 rfl r_info rfl _ rfl rfl rfl (by rw [HT.out]; exact HR.out) ?_)
            | (with_reducible refine store_all HK.out 1 288 r_info rfl rfl _ _ rfl rfl rfl rfl (by rw [HT.out]; exact HR.out) (zer_length 288) ?_; intro u hk hs; clear hs; simp only [List.set_cons_zero, List.set_cons_succ] at hk; clear HK; have HK := Lib.hid hk; clear hk)
            | (with_reducible refine store_all HK.out 1 288 r_info rfl rfl _ _ rfl rfl rfl rfl (zer_length 288) (zer_length 288) ?_; intro u hk hs; clear hs; simp only [List.set_cons_zero, List.set_cons_succ] at hk; clear HK; have HK := Lib.hid hk; clear hk))
          exact bodyPost_ret (results_r2 rfl _ HK.out 1 _ rfl rfl rfl (zer_length 288)) rfl ⟨rfl, HK.out.bel⟩
    · have hp2 : preM R j k n = freeE R j := by rw [hp]; unfold coverE; rw [if_neg (fun h2 => h0 h2.1)]
      obtain ⟨e1, e2⟩ := move_no hp2 h0
      rw [e1, e2]
      clear e1 e2 hp hp2
      generalize freeN R (j : Int) = f at hf
      generalize freeE R (j : Int) = x at h0 hf
      go_enter Try.func23, Try.ntmps23
      go_wp2_with (first
        | (with_reducible refine box_new HK.out rfl _ rfl rfl ?_; intro b u hk hb; clear hb; clear HK; have HK := Lib.hid hk; clear hk)
        | (with_reducible refine alloc_zero HK.out 288 r_zero rfl rfl ?_; intro b u hn hk hb; clear hn; clear hb; clear HK; have HK := Lib.hid hk; clear hk)
        | (with_reducible refine build_zero 288 r_build rfl rfl ?_)
        | (with_reducible refine store_all HK.out 0 288 r_info rfl rfl _ _ rfl rfl rfl rfl (zer_length 288) (zer_length 288) ?_; intro u hk hs; clear hs; simp only [List.set_cons_zero] at hk; clear HK; have HK := Lib.hid hk; clear hk)
        | (with_reducible refine load_all HK.out 1 288 Try.underlying26 rfl r_info rfl _ rfl rfl rfl HR.out ?_)
        | (go_at_call 12; (with_reducible refine (hf _).mono ?_); rintro e u ⟨rfl, hb⟩; have hk := HK.out.call hb; clear hb; clear HK; have HK := Lib.hid hk; clear hk))
      exact bodyPost_ret (results_r2 rfl _ HK.out 0 _ rfl rfl rfl (zer_length 288)) rfl ⟨rfl, HK.out.bel⟩
  · obtain ⟨e1, e2⟩ := move_no (R := R) (i := i) (k := k) (n := n) (x := 1) (by unfold preM; rw [if_neg hg]) (by omega)
    rw [e1, e2]; clear e1 e2 hf
    have hd : i < 0 ∨ (¬ i < 0 ∧ 15 < i) ∨ (¬ i < 0 ∧ ¬ 15 < i ∧ k < 0) ∨ (¬ i < 0 ∧ ¬ 15 < i ∧ ¬ k < 0 ∧ 15 < k) ∨ (¬ i < 0 ∧ ¬ 15 < i ∧ ¬ k < 0 ∧ ¬ 15 < k ∧ i = k) ∨ (¬ i < 0 ∧ ¬ 15 < i ∧ ¬ k < 0 ∧ ¬ 15 < k ∧ i ≠ k ∧ n < 0) := by
      simp only [repB_iff] at hg; omega
    clear hg
    rcases hd with h1 | ⟨h1, h2⟩ | ⟨h1, h2, h3⟩ | ⟨h1, h2, h3, h4⟩ | ⟨h1, h2, h3, h4, rfl⟩ | ⟨h1, h2, h3, h4, h5, h6⟩
    · skip
      go_enter Try.func23, Try.ntmps23
      go_wp2_with (first
        | (with_reducible refine box_new HK.out rfl _ rfl rfl ?_; intro b u hk hb; clear hb; clear HK; have HK := Lib.hid hk; clear hk)
        | (with_reducible refine alloc_zero HK.out 288 r_zero rfl rfl ?_; intro b u hn hk hb; clear hn; clear hb; clear HK; have HK := Lib.hid hk; clear hk)
        | (with_reducible refine build_zero 288 r_build rfl rfl ?_)
        | (with_reducible refine store_all HK.out 0 288 r_info rfl rfl _ _ rfl rfl rfl rfl (zer_length 288) (zer_length 288) ?_; intro u hk hs; clear hs; simp only [List.set_cons_zero] at hk; clear HK; have HK := Lib.hid hk; clear hk)
        | (with_reducible refine load_all HK.out 1 288 Try.underlying26 rfl r_info rfl _ rfl rfl rfl HR.out ?_)
        | (go_at_call 12; (with_reducible refine (hf _).mono ?_); rintro e u ⟨rfl, hb⟩; have hk := HK.out.call hb; clear hb; clear HK; have HK := Lib.hid hk; clear hk))
      exact bodyPost_ret (results_r2 rfl _ HK.out 0 _ rfl rfl rfl (zer_length 288)) rfl ⟨rfl, HK.out.bel⟩
    · skip
      go_enter Try.func23, Try.ntmps23
      go_wp2_with (first
        | (with_reducible refine box_new HK.out rfl _ rfl rfl ?_; intro b u hk hb; clear hb; clear HK; have HK := Lib.hid hk; clear hk)
        | (with_reducible refine alloc_zero HK.out 288 r_zero rfl rfl ?_; intro b u hn hk hb; clear hn; clear hb; clear HK; have HK := Lib.hid hk; clear hk)
        | (with_reducible refine build_zero 288 r_build rfl rfl ?_)
        | (with_reducible refine store_all HK.out 0 288 r_info rfl rfl _ _ rfl rfl rfl rfl (zer_length 288) (zer_length 288) ?_; intro u hk hs; clear hs; simp only [List.set_cons_zero] at hk; clear HK; have HK := Lib.hid hk; clear hk)
        | (with_reducible refine load_all HK.out 1 288 Try.underlying26 rfl r_info rfl _ rfl rfl rfl HR.out ?_)
        | (go_at_call 12; (with_reducible refine (hf _).mono ?_); rintro e u ⟨rfl, hb⟩; have hk := HK.out.call hb; clear hb; clear HK; have HK := Lib.hid hk; clear hk))
      exact bodyPost_ret (results_r2 rfl _ HK.out 0 _ rfl rfl rfl (zer_length 288)) rfl ⟨rfl, HK.out.bel⟩
    · skip
      go_enter Try.func23, Try.ntmps23
      go_wp2_with (first
        | (with_reducible refine box_new HK.out rfl _ rfl rfl ?_; intro b u hk hb; clear hb; clear HK; have HK := Lib.hid hk; clear hk)
        | (with_reducible refine alloc_zero HK.out 288 r_zero rfl rfl ?_; intro b u hn hk hb; clear hn; clear hb; clear HK; have HK := Lib.hid hk; clear hk)
        | (with_reducible refine build_zero 288 r_build rfl rfl ?_)
        | (with_reducible refine store_all HK.out 0 288 r_info rfl rfl _ _ rfl rfl rfl rfl (zer_length 288) (zer_length 288) ?_; intro u hk hs; clear hs; simp only [List.set_cons_zero] at hk; clear HK; have HK := Lib.hid hk; clear hk)
        | (with_reducible refine load_all HK.out 1 288 Try.underlying26 rfl r_info rfl _ rfl rfl rfl HR.out ?_)
        | (go_at_call 12; (with_reducible refine (hf _).mono ?_); rintro e u ⟨rfl, hb⟩; have hk := HK.out.call hb; clear hb; clear HK; have HK := Lib.hid hk; clear hk))
      exact bodyPost_ret (results_r2 rfl _ HK.out 0 _ rfl rfl rfl (zer_length 288)) rfl ⟨rfl, HK.out.bel⟩
    · skip
      go_enter Try.func23, Try.ntmps23
      go_wp2_with (first
        | (with_reducible refine box_new HK.out rfl _ rfl rfl ?_; intro b u hk hb; clear hb; clear HK; have HK := Lib.hid hk; clear hk)
        | (with_reducible refine alloc_zero HK.out 288 r_zero rfl rfl ?_; intro b u hn hk hb; clear hn; clear hb; clear HK; have HK := Lib.hid hk; clear hk)
        | (with_reducible refine build_zero 288 r_build rfl rfl ?_)
        | (with_reducible refine store_all HK.out 0 288 r_info rfl rfl _ _ rfl rfl rfl rfl (zer_length 288) (zer_length 288) ?_; intro u hk hs; clear hs; simp only [List.set_cons_zero] at hk; clear HK; have HK := Lib.hid hk; clear hk)
        | (with_reducible refine load_all HK.out 1 288 Try.underlying26 rfl r_info rfl _ rfl rfl rfl HR.out ?_)
        | (go_at_call 12; (with_reducible refine (hf _).mono ?_); rintro e u ⟨rfl, hb⟩; have hk := HK.out.call hb; clear hb; clear HK; have HK := Lib.hid hk; clear hk))
      exact bodyPost_ret (results_r2 rfl _ HK.out 0 _ rfl rfl rfl (zer_length 288)) rfl ⟨rfl, HK.out.bel⟩
    · skip
      go_enter Try.func23, Try.ntmps23
      go_wp2_with (first
        | (with_reducible refine box_new HK.out rfl _ rfl rfl ?_; intro b u hk hb; clear hb; clear HK; have HK := Lib.hid hk; clear hk)
        | (with_reducible refine alloc_zero HK.out 288 r_zero rfl rfl ?_; intro b u hn hk hb; clear hn; clear hb; clear HK; have HK := Lib.hid hk; clear hk)
        | (with_reducible refine build_zero 288 r_build rfl rfl ?_)
        | (with_reducible refine store_all HK.out 0 288 r_info rfl rfl _ _ rfl rfl rfl rfl (zer_length 288) (zer_length 288) ?_; intro u hk hs; clear hs; simp only [List.set_cons_zero] at hk; clear HK; have HK := Lib.hid hk; clear hk)
        | (with_reducible refine load_all HK.out 1 288 Try.underlying26 rfl r_info rfl _ rfl rfl rfl HR.out ?_)
        | (go_at_call 12; (with_reducible refine (hf _).mono ?_); rintro e u ⟨rfl, hb⟩; have hk := HK.out.call hb; clear hb; clear HK; have HK := Lib.hid hk; clear hk))
      exact bodyPost_ret (results_r2 rfl _ HK.out 0 _ rfl rfl rfl (zer_length 288)) rfl ⟨rfl, HK.out.bel⟩
    · have b1 : (i == k) = false := beq_eq_false_iff_ne.2 h5
      have b2 : (i != k) = true := by simp [bne, b1]
      go_enter Try.func23, Try.ntmps23
      go_wp2_with (first
        | (with_reducible refine box_new HK.out rfl _ rfl rfl ?_; intro b u hk hb; clear hb; clear HK; have HK := Lib.hid hk; clear hk)
        | (with_reducible refine alloc_zero HK.out 288 r_zero rfl rfl ?_; intro b u hn hk hb; clear hn; clear hb; clear HK; have HK := Lib.hid hk; clear hk)
        | (with_reducible refine build_zero 288 r_build rfl rfl ?_)
        | (with_reducible refine store_all HK.out 0 288 r_info rfl rfl _ _ rfl rfl rfl rfl (zer_length 288) (zer_length 288) ?_; intro u hk hs; clear hs; simp only [List.set_cons_zero] at hk; clear HK; have HK := Lib.hid hk; clear hk)
        | (with_reducible refine load_all HK.out 1 288 Try.underlying26 rfl r_info rfl _ rfl rfl rfl HR.out ?_)
        | (go_at_call 12; (with_reducible refine (hf _).mono ?_); rintro e u ⟨rfl, hb⟩; have hk := HK.out.call hb; clear hb; clear HK; have HK := Lib.hid hk; clear hk))
      exact bodyPost_ret (results_r2 rfl _ HK.out 0 _ rfl rfl rfl (zer_length 288)) rfl ⟨rfl, HK.out.bel⟩
end Go.Proofs.Ytpbjencigepnfaa
