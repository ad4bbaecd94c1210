/- Contracts of the document's Inc, Dec and Hand. -/
import Derived.Test.YtbaccghnneidgaaGreatCtDo
namespace Go.Proofs.YtbaccghnneidgaaGreat
set_option maxRecDepth 100000
open Go.ChangeShapes Go.WideShapes Go.ChangeAt Go.RowKit

set_option maxRecDepth 100000 in
set_option maxHeartbeats 1000000 in
theorem rinc_any (C : List Int) (hC : C.length = 579) (k n : Int) (w : World) :
    Calls Tryz.prog 61 #[.agg (vals C).toArray, .int .i64 k, .int .i64 n] w fun e w' => e = .returned (.tuple #[.agg (vals (incA C k n)).toArray, .int .i64 (incE C k n)]) ∧ Below w.heap.size w w' := by
  have HL1 := Lib.hid (show (seg C 291 288).length = 288 from seg_length (by omega))
  have HL2 := Lib.hid (show (seg C 3 288).length = 288 from seg_length (by omega))
  have HC := Lib.hid hC; clear hC
  have HK := Lib.hid (KeepR.start w)
  have h1 := ruse_any (seg C 291 288) HL1.out k n
  have h2 := rgive_any (seg C 3 288) HL2.out k n
  have HA := Lib.hid (show (useA (seg C 291 288) k n).length = 288 from useA_length HL1.out _ _)
  have HB := Lib.hid (show (grA (seg C 3 288) 0 k n).length = 288 from grA_length HL2.out _ _ _)
  have hE : incE C k n = bothE (useE (seg C 291 288) k n) (grE (seg C 3 288) 0 k n) := rfl
  have hA : incA C k n = bothA C 291 (useA (seg C 291 288) k n) 3 (grA (seg C 3 288) 0 k n) (useE (seg C 291 288) k n) (grE (seg C 3 288) 0 k n) := rfl
  rw [hE, hA]; clear hE hA
  generalize useA (seg C 291 288) k n = X at h1 HA ⊢
  generalize grA (seg C 3 288) 0 k n = Y at h2 HB ⊢
  generalize useE (seg C 291 288) k n = e1 at h1 ⊢
  generalize grE (seg C 3 288) 0 k n = e2 at h2 ⊢
  by_cases z1 : e1 = 0
  · subst z1
    rw [both_snd]
    by_cases z2 : e2 = 0
    · subst z2
      rw [bothA_yes]
      go_enter Tryz.func61, Tryz.ntmps61
      go_wp2_with (first
        | (with_reducible refine box_new (R := C) HK.out rfl _ rfl rfl ?_; intro bc u hk hb; clear hb; clear HK; have HK := Lib.hid hk; clear hk)
        | (with_reducible refine alloc_zero HK.out 579 c_zero rfl rfl ?_; intro br u hn hk hb; clear hn hb; clear HK; have HK := Lib.hid hk; clear hk)
        | (with_reducible refine build_zero 579 c_build rfl rfl ?_)
        | (with_reducible refine load_part HK.out 1 288 Tryz.underlying26 rfl r_info rfl _ rfl rfl rfl (by have := HC.out; omega) ?_)
        | (with_reducible refine load_part HK.out 2 288 Tryz.underlying26 rfl r_info rfl _ rfl rfl rfl (by have := HC.out; omega) ?_)
        | (go_at_call 104; (with_reducible refine (h1 _).mono ?_); rintro e u ⟨rfl, hb⟩; have hk := HK.out.call hb; clear hb; clear HK; have HK := Lib.hid hk; clear hk)
        | (go_at_call 105; (with_reducible refine (h2 _).mono ?_); rintro e u ⟨rfl, hb⟩; have hk := HK.out.call hb; clear hb; clear HK; have HK := Lib.hid hk; clear hk)
        | (with_reducible refine alloc_zero HK.out 288 r_zero rfl rfl ?_; intro bx u hn hk hb; clear hn hb; clear HK; have HK := Lib.hid hk; clear hk)
        | (with_reducible refine store_all HK.out 0 288 r_info rfl rfl _ _ rfl rfl rfl rfl HA.out (zer_length 288) ?_; intro u hk hs; clear hs; simp only [List.set_cons_zero] at hk; clear HK; have HK := Lib.hid hk; clear hk)
        | (with_reducible refine store_all HK.out 0 288 r_info rfl rfl _ _ rfl rfl rfl rfl HB.out (zer_length 288) ?_; intro u hk hs; clear hs; simp only [List.set_cons_zero] at hk; clear HK; have HK := Lib.hid hk; clear hk)
        | (with_reducible refine load_all HK.out 1 288 Tryz.underlying26 rfl r_info rfl _ rfl rfl rfl HA.out ?_)
        | (with_reducible refine store_part HK.out 3 288 r_info rfl rfl _ _ rfl rfl rfl rfl HA.out (by have := HC.out; omega) ?_; intro u hk hs; clear hs; simp only [List.set_cons_zero, List.set_cons_succ] at hk; clear HK; have HK := Lib.hid hk; clear hk)
        | (with_reducible refine load_all HK.out 0 288 Tryz.underlying26 rfl r_info rfl _ rfl rfl rfl HB.out ?_)
        | (with_reducible refine store_part HK.out 3 288 r_info rfl rfl _ _ rfl rfl rfl rfl HB.out (by rw [splice_length]; have := HC.out; omega) ?_; intro u hk hs; clear hs; simp only [List.set_cons_zero, List.set_cons_succ] at hk; clear HK; have HK := Lib.hid hk; clear hk)
        | (with_reducible refine load_all HK.out 3 579 Tryz.underlying28 rfl c_info rfl _ rfl rfl rfl (by rw [splice_length, splice_length]; exact HC.out) ?_)
        | (with_reducible refine store_all HK.out 2 579 c_info rfl rfl _ _ rfl rfl rfl rfl (by rw [splice_length, splice_length]; exact HC.out) (zer_length 579) ?_; intro u hk hs; clear hs; simp only [List.set_cons_zero, List.set_cons_succ] at hk; clear HK; have HK := Lib.hid hk; clear hk))
      exact bodyPost_ret (results_2 rfl Tryz.underlying28 rfl c_info _ HK.out 2 _ rfl rfl rfl (by rw [splice_length, splice_length]; exact HC.out)) rfl ⟨rfl, HK.out.bel⟩
    · rw [bothA_no (by rw [both_snd]; exact z2)]
      go_enter Tryz.func61, Tryz.ntmps61
      go_wp2_with (first
        | (with_reducible refine box_new (R := C) HK.out rfl _ rfl rfl ?_; intro bc u hk hb; clear hb; clear HK; have HK := Lib.hid hk; clear hk)
        | (with_reducible refine alloc_zero HK.out 579 c_zero rfl rfl ?_; intro br u hn hk hb; clear hn hb; clear HK; have HK := Lib.hid hk; clear hk)
        | (with_reducible refine build_zero 579 c_build rfl rfl ?_)
        | (with_reducible refine load_part HK.out 1 288 Tryz.underlying26 rfl r_info rfl _ rfl rfl rfl (by have := HC.out; omega) ?_)
        | (with_reducible refine load_part HK.out 2 288 Tryz.underlying26 rfl r_info rfl _ rfl rfl rfl (by have := HC.out; omega) ?_)
        | (go_at_call 104; (with_reducible refine (h1 _).mono ?_); rintro e u ⟨rfl, hb⟩; have hk := HK.out.call hb; clear hb; clear HK; have HK := Lib.hid hk; clear hk)
        | (go_at_call 105; (with_reducible refine (h2 _).mono ?_); rintro e u ⟨rfl, hb⟩; have hk := HK.out.call hb; clear hb; clear HK; have HK := Lib.hid hk; clear hk)
        | (with_reducible refine alloc_zero HK.out 288 r_zero rfl rfl ?_; intro bx u hn hk hb; clear hn hb; clear HK; have HK := Lib.hid hk; clear hk)
        | (with_reducible refine store_all HK.out 0 288 r_info rfl rfl _ _ rfl rfl rfl rfl HA.out (zer_length 288) ?_; intro u hk hs; clear hs; simp only [List.set_cons_zero] at hk; clear HK; have HK := Lib.hid hk; clear hk)
        | (with_reducible refine store_all HK.out 0 288 r_info rfl rfl _ _ rfl rfl rfl rfl HB.out (zer_length 288) ?_; intro u hk hs; clear hs; simp only [List.set_cons_zero] at hk; clear HK; have HK := Lib.hid hk; clear hk)
        | (with_reducible refine store_all HK.out 2 579 c_info rfl rfl _ _ rfl rfl rfl rfl (zer_length 579) (zer_length 579) ?_; intro u hk hs; clear hs; simp only [List.set_cons_zero, List.set_cons_succ] at hk; clear HK; have HK := Lib.hid hk; clear hk))
      exact bodyPost_ret (results_2 rfl Tryz.underlying28 rfl c_info _ HK.out 2 _ rfl rfl rfl (zer_length 579)) rfl ⟨rfl, HK.out.bel⟩
  · rw [bothA_no (by rw [both_fst z1]; exact z1), both_fst z1]
    go_enter Tryz.func61, Tryz.ntmps61
    go_wp2_with (first
      | (with_reducible refine box_new (R := C) HK.out rfl _ rfl rfl ?_; intro bc u hk hb; clear hb; clear HK; have HK := Lib.hid hk; clear hk)
      | (with_reducible refine alloc_zero HK.out 579 c_zero rfl rfl ?_; intro br u hn hk hb; clear hn hb; clear HK; have HK := Lib.hid hk; clear hk)
      | (with_reducible refine build_zero 579 c_build rfl rfl ?_)
      | (with_reducible refine load_part HK.out 1 288 Tryz.underlying26 rfl r_info rfl _ rfl rfl rfl (by have := HC.out; omega) ?_)
      | (go_at_call 104; (with_reducible refine (h1 _).mono ?_); rintro e u ⟨rfl, hb⟩; have hk := HK.out.call hb; clear hb; clear HK; have HK := Lib.hid hk; clear hk)
      | (with_reducible refine alloc_zero HK.out 288 r_zero rfl rfl ?_; intro bx u hn hk hb; clear hn hb; clear HK; have HK := Lib.hid hk; clear hk)
      | (with_reducible refine store_all HK.out 0 288 r_info rfl rfl _ _ rfl rfl rfl rfl HA.out (zer_length 288) ?_; intro u hk hs; clear hs; simp only [List.set_cons_zero] at hk; clear HK; have HK := Lib.hid hk; clear hk)
      | (with_reducible refine store_all HK.out 1 579 c_info rfl rfl _ _ rfl rfl rfl rfl (zer_length 579) (zer_length 579) ?_; intro u hk hs; clear hs; simp only [List.set_cons_zero, List.set_cons_succ] at hk; clear HK; have HK := Lib.hid hk; clear hk))
    exact bodyPost_ret (results_2 rfl Tryz.underlying28 rfl c_info _ HK.out 1 _ rfl rfl rfl (zer_length 579)) rfl ⟨rfl, HK.out.bel⟩
set_option maxRecDepth 100000 in
set_option maxHeartbeats 1000000 in
theorem rdec_any (C : List Int) (hC : C.length = 579) (k n : Int) (w : World) :
    Calls Tryz.prog 63 #[.agg (vals C).toArray, .int .i64 k, .int .i64 n] w fun e w' => e = .returned (.tuple #[.agg (vals (decA C k n)).toArray, .int .i64 (decE C k n)]) ∧ Below w.heap.size w w' := by
  have HL1 := Lib.hid (show (seg C 3 288).length = 288 from seg_length (by omega))
  have HL2 := Lib.hid (show (seg C 291 288).length = 288 from seg_length (by omega))
  have HC := Lib.hid hC; clear hC
  have HK := Lib.hid (KeepR.start w)
  have h1 := ruse_any (seg C 3 288) HL1.out k n
  have h2 := rgive_any (seg C 291 288) HL2.out k n
  have HA := Lib.hid (show (useA (seg C 3 288) k n).length = 288 from useA_length HL1.out _ _)
  have HB := Lib.hid (show (grA (seg C 291 288) 0 k n).length = 288 from grA_length HL2.out _ _ _)
  have hE : decE C k n = bothE (useE (seg C 3 288) k n) (grE (seg C 291 288) 0 k n) := rfl
  have hA : decA C k n = bothA C 3 (useA (seg C 3 288) k n) 291 (grA (seg C 291 288) 0 k n) (useE (seg C 3 288) k n) (grE (seg C 291 288) 0 k n) := rfl
  rw [hE, hA]; clear hE hA
  generalize useA (seg C 3 288) k n = X at h1 HA ⊢
  generalize grA (seg C 291 288) 0 k n = Y at h2 HB ⊢
  generalize useE (seg C 3 288) k n = e1 at h1 ⊢
  generalize grE (seg C 291 288) 0 k n = e2 at h2 ⊢
  by_cases z1 : e1 = 0
  · subst z1
    rw [both_snd]
    by_cases z2 : e2 = 0
    · subst z2
      rw [bothA_yes]
      go_enter Tryz.func63, Tryz.ntmps63
      go_wp2_with (first
        | (with_reducible refine box_new (R := C) HK.out rfl _ rfl rfl ?_; intro bc u hk hb; clear hb; clear HK; have HK := Lib.hid hk; clear hk)
        | (with_reducible refine alloc_zero HK.out 579 c_zero rfl rfl ?_; intro br u hn hk hb; clear hn hb; clear HK; have HK := Lib.hid hk; clear hk)
        | (with_reducible refine build_zero 579 c_build rfl rfl ?_)
        | (with_reducible refine load_part HK.out 1 288 Tryz.underlying26 rfl r_info rfl _ rfl rfl rfl (by have := HC.out; omega) ?_)
        | (with_reducible refine load_part HK.out 2 288 Tryz.underlying26 rfl r_info rfl _ rfl rfl rfl (by have := HC.out; omega) ?_)
        | (go_at_call 104; (with_reducible refine (h1 _).mono ?_); rintro e u ⟨rfl, hb⟩; have hk := HK.out.call hb; clear hb; clear HK; have HK := Lib.hid hk; clear hk)
        | (go_at_call 105; (with_reducible refine (h2 _).mono ?_); rintro e u ⟨rfl, hb⟩; have hk := HK.out.call hb; clear hb; clear HK; have HK := Lib.hid hk; clear hk)
        | (with_reducible refine alloc_zero HK.out 288 r_zero rfl rfl ?_; intro bx u hn hk hb; clear hn hb; clear HK; have HK := Lib.hid hk; clear hk)
        | (with_reducible refine store_all HK.out 0 288 r_info rfl rfl _ _ rfl rfl rfl rfl HA.out (zer_length 288) ?_; intro u hk hs; clear hs; simp only [List.set_cons_zero] at hk; clear HK; have HK := Lib.hid hk; clear hk)
        | (with_reducible refine store_all HK.out 0 288 r_info rfl rfl _ _ rfl rfl rfl rfl HB.out (zer_length 288) ?_; intro u hk hs; clear hs; simp only [List.set_cons_zero] at hk; clear HK; have HK := Lib.hid hk; clear hk)
        | (with_reducible refine load_all HK.out 1 288 Tryz.underlying26 rfl r_info rfl _ rfl rfl rfl HA.out ?_)
        | (with_reducible refine store_part HK.out 3 288 r_info rfl rfl _ _ rfl rfl rfl rfl HA.out (by have := HC.out; omega) ?_; intro u hk hs; clear hs; simp only [List.set_cons_zero, List.set_cons_succ] at hk; clear HK; have HK := Lib.hid hk; clear hk)
        | (with_reducible refine load_all HK.out 0 288 Tryz.underlying26 rfl r_info rfl _ rfl rfl rfl HB.out ?_)
        | (with_reducible refine store_part HK.out 3 288 r_info rfl rfl _ _ rfl rfl rfl rfl HB.out (by rw [splice_length]; have := HC.out; omega) ?_; intro u hk hs; clear hs; simp only [List.set_cons_zero, List.set_cons_succ] at hk; clear HK; have HK := Lib.hid hk; clear hk)
        | (with_reducible refine load_all HK.out 3 579 Tryz.underlying28 rfl c_info rfl _ rfl rfl rfl (by rw [splice_length, splice_length]; exact HC.out) ?_)
        | (with_reducible refine store_all HK.out 2 579 c_info rfl rfl _ _ rfl rfl rfl rfl (by rw [splice_length, splice_length]; exact HC.out) (zer_length 579) ?_; intro u hk hs; clear hs; simp only [List.set_cons_zero, List.set_cons_succ] at hk; clear HK; have HK := Lib.hid hk; clear hk))
      exact bodyPost_ret (results_2 rfl Tryz.underlying28 rfl c_info _ HK.out 2 _ rfl rfl rfl (by rw [splice_length, splice_length]; exact HC.out)) rfl ⟨rfl, HK.out.bel⟩
    · rw [bothA_no (by rw [both_snd]; exact z2)]
      go_enter Tryz.func63, Tryz.ntmps63
      go_wp2_with (first
        | (with_reducible refine box_new (R := C) HK.out rfl _ rfl rfl ?_; intro bc u hk hb; clear hb; clear HK; have HK := Lib.hid hk; clear hk)
        | (with_reducible refine alloc_zero HK.out 579 c_zero rfl rfl ?_; intro br u hn hk hb; clear hn hb; clear HK; have HK := Lib.hid hk; clear hk)
        | (with_reducible refine build_zero 579 c_build rfl rfl ?_)
        | (with_reducible refine load_part HK.out 1 288 Tryz.underlying26 rfl r_info rfl _ rfl rfl rfl (by have := HC.out; omega) ?_)
        | (with_reducible refine load_part HK.out 2 288 Tryz.underlying26 rfl r_info rfl _ rfl rfl rfl (by have := HC.out; omega) ?_)
        | (go_at_call 104; (with_reducible refine (h1 _).mono ?_); rintro e u ⟨rfl, hb⟩; have hk := HK.out.call hb; clear hb; clear HK; have HK := Lib.hid hk; clear hk)
        | (go_at_call 105; (with_reducible refine (h2 _).mono ?_); rintro e u ⟨rfl, hb⟩; have hk := HK.out.call hb; clear hb; clear HK; have HK := Lib.hid hk; clear hk)
        | (with_reducible refine alloc_zero HK.out 288 r_zero rfl rfl ?_; intro bx u hn hk hb; clear hn hb; clear HK; have HK := Lib.hid hk; clear hk)
        | (with_reducible refine store_all HK.out 0 288 r_info rfl rfl _ _ rfl rfl rfl rfl HA.out (zer_length 288) ?_; intro u hk hs; clear hs; simp only [List.set_cons_zero] at hk; clear HK; have HK := Lib.hid hk; clear hk)
        | (with_reducible refine store_all HK.out 0 288 r_info rfl rfl _ _ rfl rfl rfl rfl HB.out (zer_length 288) ?_; intro u hk hs; clear hs; simp only [List.set_cons_zero] at hk; clear HK; have HK := Lib.hid hk; clear hk)
        | (with_reducible refine store_all HK.out 2 579 c_info rfl rfl _ _ rfl rfl rfl rfl (zer_length 579) (zer_length 579) ?_; intro u hk hs; clear hs; simp only [List.set_cons_zero, List.set_cons_succ] at hk; clear HK; have HK := Lib.hid hk; clear hk))
      exact bodyPost_ret (results_2 rfl Tryz.underlying28 rfl c_info _ HK.out 2 _ rfl rfl rfl (zer_length 579)) rfl ⟨rfl, HK.out.bel⟩
  · rw [bothA_no (by rw [both_fst z1]; exact z1), both_fst z1]
    go_enter Tryz.func63, Tryz.ntmps63
    go_wp2_with (first
      | (with_reducible refine box_new (R := C) HK.out rfl _ rfl rfl ?_; intro bc u hk hb; clear hb; clear HK; have HK := Lib.hid hk; clear hk)
      | (with_reducible refine alloc_zero HK.out 579 c_zero rfl rfl ?_; intro br u hn hk hb; clear hn hb; clear HK; have HK := Lib.hid hk; clear hk)
      | (with_reducible refine build_zero 579 c_build rfl rfl ?_)
      | (with_reducible refine load_part HK.out 1 288 Tryz.underlying26 rfl r_info rfl _ rfl rfl rfl (by have := HC.out; omega) ?_)
      | (go_at_call 104; (with_reducible refine (h1 _).mono ?_); rintro e u ⟨rfl, hb⟩; have hk := HK.out.call hb; clear hb; clear HK; have HK := Lib.hid hk; clear hk)
      | (with_reducible refine alloc_zero HK.out 288 r_zero rfl rfl ?_; intro bx u hn hk hb; clear hn hb; clear HK; have HK := Lib.hid hk; clear hk)
      | (with_reducible refine store_all HK.out 0 288 r_info rfl rfl _ _ rfl rfl rfl rfl HA.out (zer_length 288) ?_; intro u hk hs; clear hs; simp only [List.set_cons_zero] at hk; clear HK; have HK := Lib.hid hk; clear hk)
      | (with_reducible refine store_all HK.out 1 579 c_info rfl rfl _ _ rfl rfl rfl rfl (zer_length 579) (zer_length 579) ?_; intro u hk hs; clear hs; simp only [List.set_cons_zero, List.set_cons_succ] at hk; clear HK; have HK := Lib.hid hk; clear hk))
    exact bodyPost_ret (results_2 rfl Tryz.underlying28 rfl c_info _ HK.out 1 _ rfl rfl rfl (zer_length 579)) rfl ⟨rfl, HK.out.bel⟩
set_option maxRecDepth 100000 in
set_option maxHeartbeats 1000000 in
theorem rhand_any (C : List Int) (hC : C.length = 579) (i k p q : Int) (w : World) :
    Calls Tryz.prog 66 #[.agg (vals C).toArray, .int .i64 i, .int .i64 k, .int .i64 p, .int .i64 q] w fun e w' => e = .returned (.tuple #[.agg (vals (handA C i k p q)).toArray, .int .i64 (handE C i k p q)]) ∧ Below w.heap.size w w' := by
  have HL1 := Lib.hid (show (seg C 3 288).length = 288 from seg_length (by omega))
  have HL2 := Lib.hid (show (seg C 291 288).length = 288 from seg_length (by omega))
  have HC := Lib.hid hC; clear hC
  have HK := Lib.hid (KeepR.start w)
  have h1 := rmove_any (seg C 3 288) HL1.out i k p
  have h2 := rmove_any (seg C 291 288) HL2.out i k q
  have HA := Lib.hid (show (moveA (seg C 3 288) i k p).length = 288 from moveA_length HL1.out _ _ _)
  have HB := Lib.hid (show (moveA (seg C 291 288) i k q).length = 288 from moveA_length HL2.out _ _ _)
  have hE : handE C i k p q = bothE (moveE (seg C 3 288) i k p) (moveE (seg C 291 288) i k q) := rfl
  have hA : handA C i k p q = bothA C 3 (moveA (seg C 3 288) i k p) 291 (moveA (seg C 291 288) i k q) (moveE (seg C 3 288) i k p) (moveE (seg C 291 288) i k q) := rfl
  rw [hE, hA]; clear hE hA
  generalize moveA (seg C 3 288) i k p = X at h1 HA ⊢
  generalize moveA (seg C 291 288) i k q = Y at h2 HB ⊢
  generalize moveE (seg C 3 288) i k p = e1 at h1 ⊢
  generalize moveE (seg C 291 288) i k q = e2 at h2 ⊢
  by_cases z1 : e1 = 0
  · subst z1
    rw [both_snd]
    by_cases z2 : e2 = 0
    · subst z2
      rw [bothA_yes]
      go_enter Tryz.func66, Tryz.ntmps66
      go_wp2_with (first
        | (with_reducible refine box_new (R := C) HK.out rfl _ rfl rfl ?_; intro bc u hk hb; clear hb; clear HK; have HK := Lib.hid hk; clear hk)
        | (with_reducible refine alloc_zero HK.out 579 c_zero rfl rfl ?_; intro br u hn hk hb; clear hn hb; clear HK; have HK := Lib.hid hk; clear hk)
        | (with_reducible refine build_zero 579 c_build rfl rfl ?_)
        | (with_reducible refine load_part HK.out 1 288 Tryz.underlying26 rfl r_info rfl _ rfl rfl rfl (by have := HC.out; omega) ?_)
        | (with_reducible refine load_part HK.out 2 288 Tryz.underlying26 rfl r_info rfl _ rfl rfl rfl (by have := HC.out; omega) ?_)
        | (go_at_call 107; (with_reducible refine (h1 _).mono ?_); rintro e u ⟨rfl, hb⟩; have hk := HK.out.call hb; clear hb; clear HK; have HK := Lib.hid hk; clear hk)
        | (go_at_call 107; (with_reducible refine (h2 _).mono ?_); rintro e u ⟨rfl, hb⟩; have hk := HK.out.call hb; clear hb; clear HK; have HK := Lib.hid hk; clear hk)
        | (with_reducible refine alloc_zero HK.out 288 r_zero rfl rfl ?_; intro bx u hn hk hb; clear hn hb; clear HK; have HK := Lib.hid hk; clear hk)
        | (with_reducible refine store_all HK.out 0 288 r_info rfl rfl _ _ rfl rfl rfl rfl HA.out (zer_length 288) ?_; intro u hk hs; clear hs; simp only [List.set_cons_zero] at hk; clear HK; have HK := Lib.hid hk; clear hk)
        | (with_reducible refine store_all HK.out 0 288 r_info rfl rfl _ _ rfl rfl rfl rfl HB.out (zer_length 288) ?_; intro u hk hs; clear hs; simp only [List.set_cons_zero] at hk; clear HK; have HK := Lib.hid hk; clear hk)
        | (with_reducible refine load_all HK.out 1 288 Tryz.underlying26 rfl r_info rfl _ rfl rfl rfl HA.out ?_)
        | (with_reducible refine store_part HK.out 3 288 r_info rfl rfl _ _ rfl rfl rfl rfl HA.out (by have := HC.out; omega) ?_; intro u hk hs; clear hs; simp only [List.set_cons_zero, List.set_cons_succ] at hk; clear HK; have HK := Lib.hid hk; clear hk)
        | (with_reducible refine load_all HK.out 0 288 Tryz.underlying26 rfl r_info rfl _ rfl rfl rfl HB.out ?_)
        | (with_reducible refine store_part HK.out 3 288 r_info rfl rfl _ _ rfl rfl rfl rfl HB.out (by rw [splice_length]; have := HC.out; omega) ?_; intro u hk hs; clear hs; simp only [List.set_cons_zero, List.set_cons_succ] at hk; clear HK; have HK := Lib.hid hk; clear hk)
        | (with_reducible refine load_all HK.out 3 579 Tryz.underlying28 rfl c_info rfl _ rfl rfl rfl (by rw [splice_length, splice_length]; exact HC.out) ?_)
        | (with_reducible refine store_all HK.out 2 579 c_info rfl rfl _ _ rfl rfl rfl rfl (by rw [splice_length, splice_length]; exact HC.out) (zer_length 579) ?_; intro u hk hs; clear hs; simp only [List.set_cons_zero, List.set_cons_succ] at hk; clear HK; have HK := Lib.hid hk; clear hk))
      exact bodyPost_ret (results_2 rfl Tryz.underlying28 rfl c_info _ HK.out 2 _ rfl rfl rfl (by rw [splice_length, splice_length]; exact HC.out)) rfl ⟨rfl, HK.out.bel⟩
    · rw [bothA_no (by rw [both_snd]; exact z2)]
      go_enter Tryz.func66, Tryz.ntmps66
      go_wp2_with (first
        | (with_reducible refine box_new (R := C) HK.out rfl _ rfl rfl ?_; intro bc u hk hb; clear hb; clear HK; have HK := Lib.hid hk; clear hk)
        | (with_reducible refine alloc_zero HK.out 579 c_zero rfl rfl ?_; intro br u hn hk hb; clear hn hb; clear HK; have HK := Lib.hid hk; clear hk)
        | (with_reducible refine build_zero 579 c_build rfl rfl ?_)
        | (with_reducible refine load_part HK.out 1 288 Tryz.underlying26 rfl r_info rfl _ rfl rfl rfl (by have := HC.out; omega) ?_)
        | (with_reducible refine load_part HK.out 2 288 Tryz.underlying26 rfl r_info rfl _ rfl rfl rfl (by have := HC.out; omega) ?_)
        | (go_at_call 107; (with_reducible refine (h1 _).mono ?_); rintro e u ⟨rfl, hb⟩; have hk := HK.out.call hb; clear hb; clear HK; have HK := Lib.hid hk; clear hk)
        | (go_at_call 107; (with_reducible refine (h2 _).mono ?_); rintro e u ⟨rfl, hb⟩; have hk := HK.out.call hb; clear hb; clear HK; have HK := Lib.hid hk; clear hk)
        | (with_reducible refine alloc_zero HK.out 288 r_zero rfl rfl ?_; intro bx u hn hk hb; clear hn hb; clear HK; have HK := Lib.hid hk; clear hk)
        | (with_reducible refine store_all HK.out 0 288 r_info rfl rfl _ _ rfl rfl rfl rfl HA.out (zer_length 288) ?_; intro u hk hs; clear hs; simp only [List.set_cons_zero] at hk; clear HK; have HK := Lib.hid hk; clear hk)
        | (with_reducible refine store_all HK.out 0 288 r_info rfl rfl _ _ rfl rfl rfl rfl HB.out (zer_length 288) ?_; intro u hk hs; clear hs; simp only [List.set_cons_zero] at hk; clear HK; have HK := Lib.hid hk; clear hk)
        | (with_reducible refine store_all HK.out 2 579 c_info rfl rfl _ _ rfl rfl rfl rfl (zer_length 579) (zer_length 579) ?_; intro u hk hs; clear hs; simp only [List.set_cons_zero, List.set_cons_succ] at hk; clear HK; have HK := Lib.hid hk; clear hk))
      exact bodyPost_ret (results_2 rfl Tryz.underlying28 rfl c_info _ HK.out 2 _ rfl rfl rfl (zer_length 579)) rfl ⟨rfl, HK.out.bel⟩
  · rw [bothA_no (by rw [both_fst z1]; exact z1), both_fst z1]
    go_enter Tryz.func66, Tryz.ntmps66
    go_wp2_with (first
      | (with_reducible refine box_new (R := C) HK.out rfl _ rfl rfl ?_; intro bc u hk hb; clear hb; clear HK; have HK := Lib.hid hk; clear hk)
      | (with_reducible refine alloc_zero HK.out 579 c_zero rfl rfl ?_; intro br u hn hk hb; clear hn hb; clear HK; have HK := Lib.hid hk; clear hk)
      | (with_reducible refine build_zero 579 c_build rfl rfl ?_)
      | (with_reducible refine load_part HK.out 1 288 Tryz.underlying26 rfl r_info rfl _ rfl rfl rfl (by have := HC.out; omega) ?_)
      | (go_at_call 107; (with_reducible refine (h1 _).mono ?_); rintro e u ⟨rfl, hb⟩; have hk := HK.out.call hb; clear hb; clear HK; have HK := Lib.hid hk; clear hk)
      | (with_reducible refine alloc_zero HK.out 288 r_zero rfl rfl ?_; intro bx u hn hk hb; clear hn hb; clear HK; have HK := Lib.hid hk; clear hk)
      | (with_reducible refine store_all HK.out 0 288 r_info rfl rfl _ _ rfl rfl rfl rfl HA.out (zer_length 288) ?_; intro u hk hs; clear hs; simp only [List.set_cons_zero] at hk; clear HK; have HK := Lib.hid hk; clear hk)
      | (with_reducible refine store_all HK.out 1 579 c_info rfl rfl _ _ rfl rfl rfl rfl (zer_length 579) (zer_length 579) ?_; intro u hk hs; clear hs; simp only [List.set_cons_zero, List.set_cons_succ] at hk; clear HK; have HK := Lib.hid hk; clear hk))
    exact bodyPost_ret (results_2 rfl Tryz.underlying28 rfl c_info _ HK.out 1 _ rfl rfl rfl (zer_length 579)) rfl ⟨rfl, HK.out.bel⟩
end Go.Proofs.YtbaccghnneidgaaGreat
