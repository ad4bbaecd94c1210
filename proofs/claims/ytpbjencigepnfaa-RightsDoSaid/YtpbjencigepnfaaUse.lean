/- Contracts of rights.covered, rights.Use and rights.Move. -/
import Derived.Test.YtpbjencigepnfaaFree
import Derived.Test.YtpbjencigepnfaaRtGive
namespace Go.Proofs.Ytpbjencigepnfaa
open Go.ChangeShapes Go.WideShapes Go.ChangeAt Go.RowKit

/-- Why replica k may not do n. -/
def coverE (R : List Int) (k n : Int) : Int := if freeE R k = 0 ∧ freeN R k < n then 8 else freeE R k
def preU (R : List Int) (k n : Int) : Int := if repB k = true ∧ 0 ≤ n then coverE R k n else 1
def preM (R : List Int) (i k n : Int) : Int := if repB i = true ∧ repB k = true ∧ i ≠ k ∧ 0 ≤ n then coverE R i n else 1
def useE (R : List Int) (k n : Int) : Int := if preU R k n = 0 then grE R 16 k n else preU R k n
def useA (R : List Int) (k n : Int) : List Int := if preU R k n = 0 then grA R 16 k n else zer 288
def moveE (R : List Int) (i k n : Int) : Int := if preM R i k n = 0 then grE R (32 + i.toNat * 16) k n else preM R i k n
def moveA (R : List Int) (i k n : Int) : List Int := if preM R i k n = 0 then grA R (32 + i.toNat * 16) k n else zer 288
theorem useA_length {R : List Int} (h : R.length = 288) (k n : Int) : (useA R k n).length = 288 := by unfold useA; split; exact grA_length h _ _ _; exact zer_length 288
theorem moveA_length {R : List Int} (h : R.length = 288) (i k n : Int) : (moveA R i k n).length = 288 := by unfold moveA; split; exact grA_length h _ _ _; exact zer_length 288
theorem use_no {R : List Int} {k n x : Int} (h : preU R k n = x) (hx : x ≠ 0) : useE R k n = x ∧ useA R k n = zer 288 := by subst h; simp [useE, useA, hx]
theorem use_yes {R : List Int} {k n : Int} (h : preU R k n = 0) : useE R k n = grE R 16 k n ∧ useA R k n = grA R 16 k n := by simp [useE, useA, h]
theorem move_no {R : List Int} {i k n x : Int} (h : preM R i k n = x) (hx : x ≠ 0) : moveE R i k n = x ∧ moveA R i k n = zer 288 := by subst h; simp [moveE, moveA, hx]
theorem move_yes {R : List Int} {i : Nat} {k n : Int} (h : preM R i k n = 0) : moveE R i k n = grE R (32 + i * 16) k n ∧ moveA R i k n = grA R (32 + i * 16) k n := by simp [moveE, moveA, h]

theorem covered_any (R : List Int) (hR : R.length = 288) (k n : Int) (w : World) :
    Calls Try.prog 40 #[.agg (vals R).toArray, .int .i64 k, .int .i64 n] w fun e w' => e = .returned (.int .i64 (coverE R k n)) ∧ Below w.heap.size w w' := by
  have hf := free_any R hR k
  have hc : coverE R k n = if freeE R k = 0 ∧ freeN R k < n then 8 else freeE R k := rfl
  rw [hc]; clear hc
  generalize freeN R k = f at hf ⊢
  generalize freeE R k = x at hf ⊢
  have HR := Lib.hid hR; clear hR
  have HK := Lib.hid (KeepR.start w)
  by_cases h0 : x = 0
  · subst h0
    by_cases h1 : f < n
    · rw [if_pos ⟨rfl, h1⟩]
      go_enter Try.func40, Try.ntmps40
      go_wp2_with (first
        | (with_reducible refine box_new HK.out rfl _ rfl rfl ?_; intro b u hk hb; clear hb; clear HK; have HK := Lib.hid hk; clear hk)
        | (with_reducible refine load_all HK.out 0 288 Try.underlying26 rfl r_info rfl _ rfl rfl rfl HR.out ?_)
        | (go_at_call 11; (with_reducible refine (hf _).mono ?_); rintro e u ⟨rfl, hb⟩; have hk := HK.out.call hb; clear hb; clear HK; have HK := Lib.hid hk; clear hk))
      go_ret
      exact ⟨rfl, HK.out.bel⟩
    · rw [if_neg (fun h => h1 h.2)]
      go_enter Try.func40, Try.ntmps40
      go_wp2_with (first
        | (with_reducible refine box_new HK.out rfl _ rfl rfl ?_; intro b u hk hb; clear hb; clear HK; have HK := Lib.hid hk; clear hk)
        | (with_reducible refine load_all HK.out 0 288 Try.underlying26 rfl r_info rfl _ rfl rfl rfl HR.out ?_)
        | (go_at_call 11; (with_reducible refine (hf _).mono ?_); rintro e u ⟨rfl, hb⟩; have hk := HK.out.call hb; clear hb; clear HK; have HK := Lib.hid hk; clear hk))
      go_ret
      exact ⟨rfl, HK.out.bel⟩
  · rw [if_neg (fun h => h0 h.1)]
    go_enter Try.func40, Try.ntmps40
    go_wp2_with (first
      | (with_reducible refine box_new HK.out rfl _ rfl rfl ?_; intro b u hk hb; clear hb; clear HK; have HK := Lib.hid hk; clear hk)
      | (with_reducible refine load_all HK.out 0 288 Try.underlying26 rfl r_info rfl _ rfl rfl rfl HR.out ?_)
      | (go_at_call 11; (with_reducible refine (hf _).mono ?_); rintro e u ⟨rfl, hb⟩; have hk := HK.out.call hb; clear hb; clear HK; have HK := Lib.hid hk; clear hk))
    go_ret
    exact ⟨rfl, HK.out.bel⟩

theorem use_any (R : List Int) (hR : R.length = 288) (k n : Int) (w : World) :
    Calls Try.prog 20 #[.agg (vals R).toArray, .int .i64 k, .int .i64 n] w fun e w' => e = .returned (.tuple #[.agg (vals (useA R k n)).toArray, .int .i64 (useE R k n)]) ∧ Below w.heap.size w w' := by
  have hc := covered_any R hR k n
  have hg := grow_any (seg R 16 16) k n (seg_length (by omega))
  rw [show growE (seg R 16 16) k n = grE R 16 k n from rfl] at hg
  have ht := told_r (splice R 16 (growL (seg R 16 16) k n)) (by rw [splice_length]; exact hR) (grE R 16 k n)
  rw [show toldR (splice R 16 (growL (seg R 16 16) k n)) (grE R 16 k n) = grA R 16 k n from rfl] at ht
  have HA := Lib.hid (grA_length hR 16 k n)
  have HS := Lib.hid (seg_length (R := R) (o := 16) (n := 16) (by omega))
  have HT := Lib.hid (splice_length (growL (seg R 16 16) k n) R 16)
  have HR := Lib.hid hR; clear hR
  have HK := Lib.hid (KeepR.start w)
  cases hrep : repB k with
  | false =>
    obtain ⟨e1, e2⟩ := use_no (R := R) (k := k) (n := n) (x := 1) (by simp [preU, hrep]) (by omega)
    rw [e1, e2]; clear e1 e2 hc hg ht
    go_enter Try.func20, Try.ntmps20
    go_wp2_with (first
      | (with_reducible refine box_new HK.out rfl _ rfl rfl ?_; intro b u hk hb; clear hb; clear HK; have HK := Lib.hid hk; clear hk)
      | (with_reducible refine alloc_zero HK.out 288 r_zero rfl rfl ?_; intro b u hn hk hb; clear hn; clear hb; clear HK; have HK := Lib.hid hk; clear hk)
      | (with_reducible refine build_zero 288 r_build rfl rfl ?_)
      | (go_at_call 29; (with_reducible refine (rep_any _ _).mono ?_); rintro e u ⟨rfl, rfl⟩)
      | (with_reducible refine store_all HK.out 0 288 r_info rfl rfl _ _ rfl rfl rfl rfl (zer_length 288) (zer_length 288) ?_; intro u hk hs; clear hs; simp only [List.set_cons_zero] at hk; clear HK; have HK := Lib.hid hk; clear hk)
      | (with_reducible refine load_all HK.out 1 288 Try.underlying26 rfl r_info rfl _ rfl rfl rfl HR.out ?_)
      | (go_at_call 40; (with_reducible refine (hc _).mono ?_); rintro e u ⟨rfl, hb⟩; have hk := HK.out.call hb; clear hb; clear HK; have HK := Lib.hid hk; clear hk))
    exact bodyPost_ret (results_r2 rfl _ HK.out 0 _ rfl rfl rfl (zer_length 288)) rfl ⟨rfl, HK.out.bel⟩
  | true =>
    by_cases hn : n < 0
    · obtain ⟨e1, e2⟩ := use_no (R := R) (k := k) (n := n) (x := 1) (by unfold preU; rw [if_neg (by omega)]) (by omega)
      rw [e1, e2]; clear e1 e2 hc hg ht
      go_enter Try.func20, Try.ntmps20
      go_wp2_with (first
        | (with_reducible refine box_new HK.out rfl _ rfl rfl ?_; intro b u hk hb; clear hb; clear HK; have HK := Lib.hid hk; clear hk)
        | (with_reducible refine alloc_zero HK.out 288 r_zero rfl rfl ?_; intro b u hn hk hb; clear hn; clear hb; clear HK; have HK := Lib.hid hk; clear hk)
        | (with_reducible refine build_zero 288 r_build rfl rfl ?_)
        | (go_at_call 29; (with_reducible refine (rep_any _ _).mono ?_); rintro e u ⟨rfl, rfl⟩)
        | (with_reducible refine store_all HK.out 0 288 r_info rfl rfl _ _ rfl rfl rfl rfl (zer_length 288) (zer_length 288) ?_; intro u hk hs; clear hs; simp only [List.set_cons_zero] at hk; clear HK; have HK := Lib.hid hk; clear hk)
        | (with_reducible refine load_all HK.out 1 288 Try.underlying26 rfl r_info rfl _ rfl rfl rfl HR.out ?_)
        | (go_at_call 40; (with_reducible refine (hc _).mono ?_); rintro e u ⟨rfl, hb⟩; have hk := HK.out.call hb; clear hb; clear HK; have HK := Lib.hid hk; clear hk))
      exact bodyPost_ret (results_r2 rfl _ HK.out 0 _ rfl rfl rfl (zer_length 288)) rfl ⟨rfl, HK.out.bel⟩
    · have hp : preU R k n = coverE R k n := by unfold preU; rw [if_pos ⟨hrep, by omega⟩]
      by_cases h0 : coverE R k n = 0
      · obtain ⟨e1, e2⟩ := use_yes (hp.trans h0)
        rw [e1, e2]
        rw [h0] at hc
        clear e1 e2 hp h0
        go_enter Try.func20, Try.ntmps20
        go_wp2_with (first
          | (with_reducible refine box_new HK.out rfl _ rfl rfl ?_; intro b u hk hb; clear hb; clear HK; have HK := Lib.hid hk; clear hk)
          | (with_reducible refine alloc_zero HK.out 288 r_zero rfl rfl ?_; intro b u hn hk hb; clear hn; clear hb; clear HK; have HK := Lib.hid hk; clear hk)
          | (with_reducible refine build_zero 288 r_build rfl rfl ?_)
          | (go_at_call 29; (with_reducible refine (rep_any _ _).mono ?_); rintro e u ⟨rfl, rfl⟩)
          | (with_reducible refine load_all HK.out 1 288 Try.underlying26 rfl r_info rfl _ rfl rfl rfl HR.out ?_)
          | (go_at_call 40; (with_reducible refine (hc _).mono ?_); rintro e u ⟨rfl, hb⟩; have hk := HK.out.call hb; clear hb; clear HK; have HK := Lib.hid hk; clear hk)
          | (with_reducible refine load_part HK.out 1 16 Try.underlying23 rfl vec_info rfl _ rfl rfl rfl (by have := HR.out; omega) ?_)
          | (go_at_call 37; (with_reducible refine (hg _).mono ?_); rintro e u ⟨rfl, hb⟩; have hk := HK.out.call hb; clear hb; clear HK; have HK := Lib.hid hk; clear hk)
          | (with_reducible refine store_part HK.out 1 16 vec_info rfl rfl _ _ rfl rfl rfl rfl (growL_length HS.out _ _) (by have := HR.out; omega) ?_; intro u hk hs; clear hs; simp only [List.set_cons_zero, List.set_cons_succ] at hk; clear HK; have HK := Lib.hid hk; clear hk)
          | (with_reducible refine load_all HK.out 1 288 Try.underlying26 rfl r_info rfl _ rfl rfl rfl (by rw [HT.out]; exact HR.out) ?_)
          | (go_at_call 38; (with_reducible refine (ht _).mono ?_); rintro e u ⟨rfl, hb⟩; have hk := HK.out.call hb; clear hb; clear HK; have HK := Lib.hid hk; clear hk)
          | (with_reducible refine store_all HK.out 0 288 r_info rfl rfl _ _ rfl rfl rfl rfl HA.out (zer_length 288) ?_; intro u hk hs; clear hs; simp only [List.set_cons_zero] at hk; clear HK; have HK := Lib.hid hk; clear hk))
        exact bodyPost_ret (results_r2 rfl _ HK.out 0 _ rfl rfl rfl HA.out) rfl ⟨rfl, HK.out.bel⟩
      · obtain ⟨e1, e2⟩ := use_no hp h0
        rw [e1, e2]
        generalize coverE R k n = x at h0 hc
        clear e1 e2 hp hg ht
        go_enter Try.func20, Try.ntmps20
        go_wp2_with (first
          | (with_reducible refine box_new HK.out rfl _ rfl rfl ?_; intro b u hk hb; clear hb; clear HK; have HK := Lib.hid hk; clear hk)
          | (with_reducible refine alloc_zero HK.out 288 r_zero rfl rfl ?_; intro b u hn hk hb; clear hn; clear hb; clear HK; have HK := Lib.hid hk; clear hk)
          | (with_reducible refine build_zero 288 r_build rfl rfl ?_)
          | (go_at_call 29; (with_reducible refine (rep_any _ _).mono ?_); rintro e u ⟨rfl, rfl⟩)
          | (with_reducible refine store_all HK.out 0 288 r_info rfl rfl _ _ rfl rfl rfl rfl (zer_length 288) (zer_length 288) ?_; intro u hk hs; clear hs; simp only [List.set_cons_zero] at hk; clear HK; have HK := Lib.hid hk; clear hk)
          | (with_reducible refine load_all HK.out 1 288 Try.underlying26 rfl r_info rfl _ rfl rfl rfl HR.out ?_)
          | (go_at_call 40; (with_reducible refine (hc _).mono ?_); rintro e u ⟨rfl, hb⟩; have hk := HK.out.call hb; clear hb; clear HK; have HK := Lib.hid hk; clear hk))
        exact bodyPost_ret (results_r2 rfl _ HK.out 0 _ rfl rfl rfl (zer_length 288)) rfl ⟨rfl, HK.out.bel⟩

theorem move_any (R : List Int) (hR : R.length = 288) (i k n : Int) (w : World) :
    Calls Try.prog 22 #[.agg (vals R).toArray, .int .i64 i, .int .i64 k, .int .i64 n] w fun e w' => e = .returned (.tuple #[.agg (vals (moveA R i k n)).toArray, .int .i64 (moveE R i k n)]) ∧ Below w.heap.size w w' := by
  have hc := covered_any R hR i n
  have HR := Lib.hid hR
  have HK := Lib.hid (KeepR.start w)
  cases hri : repB i with
  | false =>
    obtain ⟨e1, e2⟩ := move_no (R := R) (i := i) (k := k) (n := n) (x := 1) (by simp [preM, hri]) (by omega)
    rw [e1, e2]; clear e1 e2 hc hR
    go_enter Try.func22, Try.ntmps22
    go_wp2_with (first
      | (with_reducible refine box_new HK.out rfl _ rfl rfl ?_; intro b u hk hb; clear hb; clear HK; have HK := Lib.hid hk; clear hk)
      | (with_reducible refine alloc_zero HK.out 288 r_zero rfl rfl ?_; intro b u hn hk hb; clear hn; clear hb; clear HK; have HK := Lib.hid hk; clear hk)
      | (with_reducible refine build_zero 288 r_build rfl rfl ?_)
      | (go_at_call 29; (with_reducible refine (rep_any _ _).mono ?_); rintro e u ⟨rfl, rfl⟩)
      | (with_reducible refine store_all HK.out 0 288 r_info rfl rfl _ _ rfl rfl rfl rfl (zer_length 288) (zer_length 288) ?_; intro u hk hs; clear hs; simp only [List.set_cons_zero] at hk; clear HK; have HK := Lib.hid hk; clear hk)
      | (with_reducible refine load_all HK.out 1 288 Try.underlying26 rfl r_info rfl _ rfl rfl rfl HR.out ?_)
      | (go_at_call 40; (with_reducible refine (hc _).mono ?_); rintro e u ⟨rfl, hb⟩; have hk := HK.out.call hb; clear hb; clear HK; have HK := Lib.hid hk; clear hk))
    exact bodyPost_ret (results_r2 rfl _ HK.out 0 _ rfl rfl rfl (zer_length 288)) rfl ⟨rfl, HK.out.bel⟩
  | true =>
    cases hrk : repB k with
    | false =>
      obtain ⟨e1, e2⟩ := move_no (R := R) (i := i) (k := k) (n := n) (x := 1) (by simp [preM, hrk]) (by omega)
      rw [e1, e2]; clear e1 e2 hc hR
      go_enter Try.func22, Try.ntmps22
      go_wp2_with (first
        | (with_reducible refine box_new HK.out rfl _ rfl rfl ?_; intro b u hk hb; clear hb; clear HK; have HK := Lib.hid hk; clear hk)
        | (with_reducible refine alloc_zero HK.out 288 r_zero rfl rfl ?_; intro b u hn hk hb; clear hn; clear hb; clear HK; have HK := Lib.hid hk; clear hk)
        | (with_reducible refine build_zero 288 r_build rfl rfl ?_)
        | (go_at_call 29; (with_reducible refine (rep_any _ _).mono ?_); rintro e u ⟨rfl, rfl⟩)
        | (with_reducible refine store_all HK.out 0 288 r_info rfl rfl _ _ rfl rfl rfl rfl (zer_length 288) (zer_length 288) ?_; intro u hk hs; clear hs; simp only [List.set_cons_zero] at hk; clear HK; have HK := Lib.hid hk; clear hk)
        | (with_reducible refine load_all HK.out 1 288 Try.underlying26 rfl r_info rfl _ rfl rfl rfl HR.out ?_)
        | (go_at_call 40; (with_reducible refine (hc _).mono ?_); rintro e u ⟨rfl, hb⟩; have hk := HK.out.call hb; clear hb; clear HK; have HK := Lib.hid hk; clear hk))
      exact bodyPost_ret (results_r2 rfl _ HK.out 0 _ rfl rfl rfl (zer_length 288)) rfl ⟨rfl, HK.out.bel⟩
    | true =>
      by_cases hik : i = k
      · obtain ⟨e1, e2⟩ := move_no (R := R) (i := i) (k := k) (n := n) (x := 1) (by simp [preM, hik]) (by omega)
        rw [e1, e2]; clear e1 e2 hc hR
        subst hik
        go_enter Try.func22, Try.ntmps22
        go_wp2_with (first
          | (with_reducible refine box_new HK.out rfl _ rfl rfl ?_; intro b u hk hb; clear hb; clear HK; have HK := Lib.hid hk; clear hk)
          | (with_reducible refine alloc_zero HK.out 288 r_zero rfl rfl ?_; intro b u hn hk hb; clear hn; clear hb; clear HK; have HK := Lib.hid hk; clear hk)
          | (with_reducible refine build_zero 288 r_build rfl rfl ?_)
          | (go_at_call 29; (with_reducible refine (rep_any _ _).mono ?_); rintro e u ⟨rfl, rfl⟩)
          | (with_reducible refine store_all HK.out 0 288 r_info rfl rfl _ _ rfl rfl rfl rfl (zer_length 288) (zer_length 288) ?_; intro u hk hs; clear hs; simp only [List.set_cons_zero] at hk; clear HK; have HK := Lib.hid hk; clear hk)
          | (with_reducible refine load_all HK.out 1 288 Try.underlying26 rfl r_info rfl _ rfl rfl rfl HR.out ?_)
          | (go_at_call 40; (with_reducible refine (hc _).mono ?_); rintro e u ⟨rfl, hb⟩; have hk := HK.out.call hb; clear hb; clear HK; have HK := Lib.hid hk; clear hk))
        exact bodyPost_ret (results_r2 rfl _ HK.out 0 _ rfl rfl rfl (zer_length 288)) rfl ⟨rfl, HK.out.bel⟩
      · have b1 : (i == k) = false := beq_eq_false_iff_ne.2 hik
        have b2 : (i != k) = true := by simp [bne, b1]
        by_cases hn : n < 0
        · obtain ⟨e1, e2⟩ := move_no (R := R) (i := i) (k := k) (n := n) (x := 1) (by unfold preM; rw [if_neg (by omega)]) (by omega)
          rw [e1, e2]; clear e1 e2 hc hR
          go_enter Try.func22, Try.ntmps22
          go_wp2_with (first
            | (with_reducible refine box_new HK.out rfl _ rfl rfl ?_; intro b u hk hb; clear hb; clear HK; have HK := Lib.hid hk; clear hk)
            | (with_reducible refine alloc_zero HK.out 288 r_zero rfl rfl ?_; intro b u hn hk hb; clear hn; clear hb; clear HK; have HK := Lib.hid hk; clear hk)
            | (with_reducible refine build_zero 288 r_build rfl rfl ?_)
            | (go_at_call 29; (with_reducible refine (rep_any _ _).mono ?_); rintro e u ⟨rfl, rfl⟩)
            | (with_reducible refine store_all HK.out 0 288 r_info rfl rfl _ _ rfl rfl rfl rfl (zer_length 288) (zer_length 288) ?_; intro u hk hs; clear hs; simp only [List.set_cons_zero] at hk; clear HK; have HK := Lib.hid hk; clear hk)
            | (with_reducible refine load_all HK.out 1 288 Try.underlying26 rfl r_info rfl _ rfl rfl rfl HR.out ?_)
            | (go_at_call 40; (with_reducible refine (hc _).mono ?_); rintro e u ⟨rfl, hb⟩; have hk := HK.out.call hb; clear hb; clear HK; have HK := Lib.hid hk; clear hk))
          exact bodyPost_ret (results_r2 rfl _ HK.out 0 _ rfl rfl rfl (zer_length 288)) rfl ⟨rfl, HK.out.bel⟩
        · have hp : preM R i k n = coverE R i n := by unfold preM; rw [if_pos ⟨hri, hrk, hik, by omega⟩]
          by_cases h0 : coverE R i n = 0
          · obtain ⟨j, rfl⟩ : ∃ j : Nat, i = j := ⟨i.toNat, by have := repB_iff.1 hri; omega⟩
            have hj : j < 16 := by have := repB_iff.1 hri; omega
            have hg := grow_any (seg R (32 + j * 16) 16) k n (seg_length (by omega))
            rw [show growE (seg R (32 + j * 16) 16) k n = grE R (32 + j * 16) k n from rfl] at hg
            have ht := told_r (splice R (32 + j * 16) (growL (seg R (32 + j * 16) 16) k n)) (by rw [splice_length]; exact hR) (grE R (32 + j * 16) k n)
            rw [show toldR (splice R (32 + j * 16) (growL (seg R (32 + j * 16) 16) k n)) (grE R (32 + j * 16) k n) = grA R (32 + j * 16) k n from rfl] at ht
            have HA := Lib.hid (grA_length hR (32 + j * 16) k n)
            have HS := Lib.hid (seg_length (R := R) (o := 32 + j * 16) (n := 16) (by omega))
            have HT := Lib.hid (splice_length (growL (seg R (32 + j * 16) 16) k n) R (32 + j * 16))
            obtain ⟨e1, e2⟩ := move_yes (hp.trans h0)
            rw [e1, e2]
            rw [h0] at hc
            have i1 : (0 : Int) ≤ (j : Int) := by omega
            have i2 : (j : Int) < 16 := by omega
            clear e1 e2 hp h0 hR
            go_enter Try.func22, Try.ntmps22
            go_wp2_with (first
              | (with_reducible refine box_new HK.out rfl _ rfl rfl ?_; intro b u hk hb; clear hb; clear HK; have HK := Lib.hid hk; clear hk)
              | (with_reducible refine alloc_zero HK.out 288 r_zero rfl rfl ?_; intro b u hn hk hb; clear hn; clear hb; clear HK; have HK := Lib.hid hk; clear hk)
              | (with_reducible refine build_zero 288 r_build rfl rfl ?_)
              | (go_at_call 29; (with_reducible refine (rep_any _ _).mono ?_); rintro e u ⟨rfl, rfl⟩)
              | (with_reducible refine load_all HK.out 1 288 Try.underlying26 rfl r_info rfl _ rfl rfl rfl HR.out ?_)
              | (go_at_call 40; (with_reducible refine (hc _).mono ?_); rintro e u ⟨rfl, hb⟩; have hk := HK.out.call hb; clear hb; clear HK; have HK := Lib.hid hk; clear hk)
              | (with_reducible refine load_part HK.out 1 16 Try.underlying23 rfl vec_info rfl _ rfl rfl rfl (by have := HR.out; omega) ?_)
              | (go_at_call 37; (with_reducible refine (hg _).mono ?_); rintro e u ⟨rfl, hb⟩; have hk := HK.out.call hb; clear hb; clear HK; have HK := Lib.hid hk; clear hk)
              | (with_reducible refine store_part HK.out 1 16 vec_info rfl rfl _ _ rfl rfl rfl rfl (growL_length HS.out _ _) (by have := HR.out; omega) ?_; intro u hk hs; clear hs; simp only [List.set_cons_zero, List.set_cons_succ] at hk; clear HK; have HK := Lib.hid hk; clear hk)
              | (with_reducible refine load_all HK.out 1 288 Try.underlying26 rfl r_info rfl _ rfl rfl rfl (by rw [HT.out]; exact HR.out) ?_)
              | (go_at_call 38; (with_reducible refine (ht _).mono ?_); rintro e u ⟨rfl, hb⟩; have hk := HK.out.call hb; clear hb; clear HK; have HK := Lib.hid hk; clear hk)
              | (with_reducible refine store_all HK.out 0 288 r_info rfl rfl _ _ rfl rfl rfl rfl HA.out (zer_length 288) ?_; intro u hk hs; clear hs; simp only [List.set_cons_zero] at hk; clear HK; have HK := Lib.hid hk; clear hk))
            exact bodyPost_ret (results_r2 rfl _ HK.out 0 _ rfl rfl rfl HA.out) rfl ⟨rfl, HK.out.bel⟩
          · obtain ⟨e1, e2⟩ := move_no hp h0
            rw [e1, e2]
            generalize coverE R i n = x at h0 hc
            clear e1 e2 hp hR
            go_enter Try.func22, Try.ntmps22
            go_wp2_with (first
              | (with_reducible refine box_new HK.out rfl _ rfl rfl ?_; intro b u hk hb; clear hb; clear HK; have HK := Lib.hid hk; clear hk)
              | (with_reducible refine alloc_zero HK.out 288 r_zero rfl rfl ?_; intro b u hn hk hb; clear hn; clear hb; clear HK; have HK := Lib.hid hk; clear hk)
              | (with_reducible refine build_zero 288 r_build rfl rfl ?_)
              | (go_at_call 29; (with_reducible refine (rep_any _ _).mono ?_); rintro e u ⟨rfl, rfl⟩)
              | (with_reducible refine store_all HK.out 0 288 r_info rfl rfl _ _ rfl rfl rfl rfl (zer_length 288) (zer_length 288) ?_; intro u hk hs; clear hs; simp only [List.set_cons_zero] at hk; clear HK; have HK := Lib.hid hk; clear hk)
              | (with_reducible refine load_all HK.out 1 288 Try.underlying26 rfl r_info rfl _ rfl rfl rfl HR.out ?_)
              | (go_at_call 40; (with_reducible refine (hc _).mono ?_); rintro e u ⟨rfl, hb⟩; have hk := HK.out.call hb; clear hb; clear HK; have HK := Lib.hid hk; clear hk))
            exact bodyPost_ret (results_r2 rfl _ HK.out 0 _ rfl rfl rfl (zer_length 288)) rfl ⟨rfl, HK.out.bel⟩
end Go.Proofs.Ytpbjencigepnfaa
