/- Contracts of rights.Give and the document's Give. -/
import Derived.Test.YtpbjencigepnfaaRtDo
namespace Go.Proofs.Ytpbjencigepnfaa
open Go.ChangeShapes Go.WideShapes Go.ChangeAt Go.RowKit

/-- What grows in the vector that begins at o; with an error the zero ones. -/
def grE (R : List Int) (o : Nat) (k n : Int) : Int := growE (seg R o 16) k n
def grA (R : List Int) (o : Nat) (k n : Int) : List Int := toldR (splice R o (growL (seg R o 16) k n)) (grE R o k n)
theorem grA_length {R : List Int} (h : R.length = 288) (o : Nat) (k n : Int) : (grA R o k n).length = 288 := toldR_length (by rw [splice_length]; exact h) _

theorem give_any (R : List Int) (hR : R.length = 288) (k n : Int) (w : World) :
    Calls Try.prog 18 #[.agg (vals R).toArray, .int .i64 k, .int .i64 n] w fun e w' => e = .returned (.tuple #[.agg (vals (grA R 0 k n)).toArray, .int .i64 (grE R 0 k n)]) ∧ Below w.heap.size w w' := by
  have HS := Lib.hid (seg_length (R := R) (o := 0) (n := 16) (by omega))
  have HT := Lib.hid (splice_length (growL (seg R 0 16) k n) R 0)
  have HR := Lib.hid hR; clear hR
  have HK := Lib.hid (KeepR.start w)
  have hg := grow_any (seg R 0 16) k n HS.out
  rw [show growE (seg R 0 16) k n = grE R 0 k n from rfl] at hg
  have ht := told_r (splice R 0 (growL (seg R 0 16) k n)) (by rw [HT.out]; exact HR.out) (grE R 0 k n)
  rw [show toldR (splice R 0 (growL (seg R 0 16) k n)) (grE R 0 k n) = grA R 0 k n from rfl] at ht
  have HA := Lib.hid (grA_length HR.out 0 k n)
  go_enter Try.func18, Try.ntmps18
  go_wp2_with (first
    | (with_reducible refine box_new HK.out rfl _ rfl rfl ?_; intro b u hk hb; clear hb; clear HK; have HK := Lib.hid hk; clear hk)
    | (with_reducible refine alloc_zero HK.out 288 r_zero rfl rfl ?_; intro b u hn hk hb; clear hn; clear hb; clear HK; have HK := Lib.hid hk; clear hk)
    | (with_reducible refine load_part HK.out 1 16 Try.underlying23 rfl vec_info rfl _ rfl rfl rfl (by have := HR.out; omega) ?_)
    | (go_at_call 37; (with_reducible refine (hg _).mono ?_); rintro e u ⟨rfl, hb⟩; have hk := HK.out.call hb; clear hb; clear HK; have HK := Lib.hid hk; clear hk)
    | (with_reducible refine store_part HK.out 1 16 vec_info rfl rfl _ _ rfl rfl rfl rfl (growL_length HS.out _ _) (by have := HR.out; omega) ?_; intro u hk hs; clear hs; simp only [List.set_cons_zero, List.set_cons_succ] at hk; clear HK; have HK := Lib.hid hk; clear hk)
    | (with_reducible refine load_all HK.out 1 288 Try.underlying26 rfl r_info rfl _ rfl rfl rfl (by rw [HT.out]; exact HR.out) ?_)
    | (go_at_call 38; (with_reducible refine (ht _).mono ?_); rintro e u ⟨rfl, hb⟩; have hk := HK.out.call hb; clear hb; clear HK; have HK := Lib.hid hk; clear hk)
    | (with_reducible refine store_all HK.out 0 288 r_info rfl rfl _ _ rfl rfl rfl rfl HA.out (zer_length 288) ?_; intro u hk hs; clear hs; simp only [List.set_cons_zero] at hk; clear HK; have HK := Lib.hid hk; clear hk))
  exact bodyPost_ret (results_r2 rfl _ HK.out 0 _ rfl rfl rfl HA.out) rfl ⟨rfl, HK.out.bel⟩

theorem rgive_any (R : List Int) (hR : R.length = 288) (k n : Int) (w : World) :
    Calls Try.prog 19 #[.agg (vals R).toArray, .int .i64 k, .int .i64 n] w fun e w' => e = .returned (.tuple #[.agg (vals (grA R 0 k n)).toArray, .int .i64 (grE R 0 k n)]) ∧ Below w.heap.size w w' := by
  have HS := Lib.hid (seg_length (R := R) (o := 0) (n := 16) (by omega))
  have HT := Lib.hid (splice_length (growL (seg R 0 16) k n) R 0)
  have HR := Lib.hid hR; clear hR
  have HK := Lib.hid (KeepR.start w)
  have hg := rgrow_any (seg R 0 16) k n HS.out
  rw [show growE (seg R 0 16) k n = grE R 0 k n from rfl] at hg
  by_cases h0 : grE R 0 k n = 0
  · rw [show grA R 0 k n = splice R 0 (growL (seg R 0 16) k n) by unfold grA; rw [h0, toldR_ok], h0]
    rw [h0] at hg
    clear h0
    go_enter Try.func19, Try.ntmps19
    go_wp2_with (first
      | (with_reducible refine box_new HK.out rfl _ rfl rfl ?_; intro b u hk hb; clear hb; clear HK; have HK := Lib.hid hk; clear hk)
      | (with_reducible refine alloc_zero HK.out 288 r_zero rfl rfl ?_; intro b u hn hk hb; clear hn; clear hb; clear HK; have HK := Lib.hid hk; clear hk)
      | (with_reducible refine alloc_zero HK.out 16 v_zero rfl rfl ?_; intro b u hn hk hb; clear hn; clear hb; clear HK; have HK := Lib.hid hk; clear hk)
      | (with_reducible refine build_zero 288 r_build rfl rfl ?_)
      | (with_reducible refine load_part HK.out 1 16 Try.underlying23 rfl vec_info rfl _ rfl rfl rfl (by have := HR.out; omega) ?_)
      | (go_at_call 39; (with_reducible refine (hg _).mono ?_); rintro e u ⟨rfl, hb⟩; have hk := HK.out.call hb; clear hb; clear HK; have HK := Lib.hid hk; clear hk)
      | (with_reducible refine store_all HK.out 0 16 vec_info rfl rfl _ _ rfl rfl rfl rfl (growL_length HS.out _ _) (zer_length 16) ?_; intro u hk hs; clear hs; simp only [List.set_cons_zero] at hk; clear HK; have HK := Lib.hid hk; clear hk)
      | (with_reducible refine load_all HK.out 0 16 Try.underlying23 rfl vec_info rfl _ rfl rfl rfl (growL_length HS.out _ _) ?_)
      | (with_reducible refine store_part HK.out 2 16 vec_info rfl rfl _ _ rfl rfl rfl rfl (growL_length HS.out _ _) (by have := HR.out; omega) ?_; intro u hk hs; clear hs; simp only [List.set_cons_zero, List.set_cons_succ] at hk; clear HK; have HK := Lib.hid hk; clear hk)
      | (with_reducible refine load_all HK.out 2 288 Try.underlying26 rfl r_info rfl _ rfl rfl rfl (by rw [HT.out]; exact HR.out) ?_)
      | (with_reducible refine store_all HK.out 1 288 r_info rfl rfl _ _ rfl rfl rfl rfl (by rw [HT.out]; exact HR.out) (zer_length 288) ?_; intro u hk hs; clear hs; simp only [List.set_cons_zero, List.set_cons_succ] at hk; clear HK; have HK := Lib.hid hk; clear hk)
      | (with_reducible refine store_all HK.out 1 288 r_info rfl rfl _ _ rfl rfl rfl rfl (zer_length 288) (zer_length 288) ?_; intro u hk hs; clear hs; simp only [List.set_cons_zero, List.set_cons_succ] at hk; clear HK; have HK := Lib.hid hk; clear hk))
    exact bodyPost_ret (results_r2 rfl _ HK.out 1 _ rfl rfl rfl (by rw [HT.out]; exact HR.out)) rfl ⟨rfl, HK.out.bel⟩
  · rw [show grA R 0 k n = zer 288 by unfold grA; rw [toldR_no _ h0]]
    generalize grE R 0 k n = x at h0 hg
    go_enter Try.func19, Try.ntmps19
    go_wp2_with (first
      | (with_reducible refine box_new HK.out rfl _ rfl rfl ?_; intro b u hk hb; clear hb; clear HK; have HK := Lib.hid hk; clear hk)
      | (with_reducible refine alloc_zero HK.out 288 r_zero rfl rfl ?_; intro b u hn hk hb; clear hn; clear hb; clear HK; have HK := Lib.hid hk; clear hk)
      | (with_reducible refine alloc_zero HK.out 16 v_zero rfl rfl ?_; intro b u hn hk hb; clear hn; clear hb; clear HK; have HK := Lib.hid hk; clear hk)
      | (with_reducible refine build_zero 288 r_build rfl rfl ?_)
      | (with_reducible refine load_part HK.out 1 16 Try.underlying23 rfl vec_info rfl _ rfl rfl rfl (by have := HR.out; omega) ?_)
      | (go_at_call 39; (with_reducible refine (hg _).mono ?_); rintro e u ⟨rfl, hb⟩; have hk := HK.out.call hb; clear hb; clear HK; have HK := Lib.hid hk; clear hk)
      | (with_reducible refine store_all HK.out 0 16 vec_info rfl rfl _ _ rfl rfl rfl rfl (growL_length HS.out _ _) (zer_length 16) ?_; intro u hk hs; clear hs; simp only [List.set_cons_zero] at hk; clear HK; have HK := Lib.hid hk; clear hk)
      | (with_reducible refine load_all HK.out 0 16 Try.underlying23 rfl vec_info rfl _ rfl rfl rfl (growL_length HS.out _ _) ?_)
      | (with_reducible refine store_part HK.out 2 16 vec_info rfl rfl _ _ rfl rfl rfl rfl (growL_length HS.out _ _) (by have := HR.out; omega) ?_; intro u hk hs; clear hs; simp only [List.set_cons_zero, List.set_cons_succ] at hk; clear HK; have HK := Lib.hid hk; clear hk)
      | (with_reducible refine load_all HK.out 2 288 Try.underlying26 rfl r_info rfl _ rfl rfl rfl (by rw [HT.out]; exact HR.out) ?_)
      | (with_reducible refine store_all HK.out 1 288 r_info rfl rfl _ _ rfl rfl rfl rfl (by rw [HT.out]; exact HR.out) (zer_length 288) ?_; intro u hk hs; clear hs; simp only [List.set_cons_zero, List.set_cons_succ] at hk; clear HK; have HK := Lib.hid hk; clear hk)
      | (with_reducible refine store_all HK.out 1 288 r_info rfl rfl _ _ rfl rfl rfl rfl (zer_length 288) (zer_length 288) ?_; intro u hk hs; clear hs; simp only [List.set_cons_zero, List.set_cons_succ] at hk; clear HK; have HK := Lib.hid hk; clear hk))
    exact bodyPost_ret (results_r2 rfl _ HK.out 1 _ rfl rfl rfl (zer_length 288)) rfl ⟨rfl, HK.out.bel⟩
end Go.Proofs.Ytpbjencigepnfaa
