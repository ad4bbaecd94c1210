/- Contracts of counter.both, Inc, Dec and Hand. -/
import Derived.Test.YtbaccghnneidgaaGreatLCtDo
namespace Go.Proofs.YtbaccghnneidgaaGreat
set_option maxRecDepth 100000
open Go.ChangeShapes Go.WideShapes Go.ChangeAt Go.RowKit

set_option maxHeartbeats 1000000 in
theorem both_ug (o1 o2 : Nat) (h1 : o1 + 288 ≤ 579) (h2 : o2 + 288 ≤ 579) (hap : o2 + 288 ≤ o1 ∨ o1 + 288 ≤ o2) (C : List Int) (hC : C.length = 579) (k n : Int) (d0 d1 g0 g1 br bc : Nat) (w u : World) (hk : KeepR w [(g1, 3, [n]), (g0, 3, [k]), (d1, 3, [n]), (d0, 3, [k]), (br, 28, zer 579), (bc, 28, C)] u) :
    Calls Tryz.prog 100 #[.pointer (some ⟨bc, o1, none⟩), .func (Fn.func 133) #[] #[.pointer (some ⟨d0, 0, none⟩), .pointer (some ⟨d1, 0, none⟩)], .pointer (some ⟨bc, o2, none⟩), .func (Fn.func 135) #[] #[.pointer (some ⟨g0, 0, none⟩), .pointer (some ⟨g1, 0, none⟩)]] u fun e u' =>
      ∃ D : List Int, e = .returned (.int .i64 (bothE (useE (seg C o1 288) k n) (grE (seg C o2 288) 0 k n))) ∧ D.length = 579 ∧ toldC D (bothE (useE (seg C o1 288) k n) (grE (seg C o2 288) 0 k n)) = bothA C o1 (useA (seg C o1 288) k n) o2 (grA (seg C o2 288) 0 k n) (useE (seg C o1 288) k n) (grE (seg C o2 288) 0 k n) ∧ KeepR w [(g1, 3, [n]), (g0, 3, [k]), (d1, 3, [n]), (d0, 3, [k]), (br, 28, zer 579), (bc, 28, D)] u' := by
  have HK := Lib.hid hk; clear hk
  have HA := Lib.hid (show (useA (seg C o1 288) k n).length = 288 from useA_length (seg_length (by omega)) _ _)
  have HB := Lib.hid (show (grA (seg C o2 288) 0 k n).length = 288 from grA_length (seg_length (by omega)) _ _ _)
  have HQ := Lib.hid (show seg (splice C o1 (useA (seg C o1 288) k n)) o2 288 = seg C o2 288 from splice_seg_apart (by have := HA.out; omega) (by omega) (by have := HA.out; omega))
  have HC := Lib.hid hC; clear hC
  have HL1 := Lib.hid (seg_length (R := C) (o := o1) (n := 288) (by have := HC.out; omega))
  have HL2 := Lib.hid (seg_length (R := C) (o := o2) (n := 288) (by have := HC.out; omega))
  have HS := Lib.hid (splice_length (useA (seg C o1 288) k n) C o1)
  have HE := Lib.hid (show ∀ x y : Int, bothE 0 y = y ∧ (x ≠ 0 → bothE x y = x) from fun x y => ⟨both_snd, fun h => both_fst h⟩)
  by_cases hz : useE (seg C o1 288) k n = 0
  · go_enter Tryz.func100, Tryz.ntmps100
    go_wp2_with (first
      | (with_reducible refine load_part HK.out 5 288 Tryz.underlying26 rfl r_info rfl _ rfl rfl rfl (by have := HC.out; omega) ?_)
      | (with_reducible refine load_part HK.out 5 288 Tryz.underlying26 rfl r_info rfl _ rfl rfl rfl (by have := HC.out; have := HS.out; omega) ?_; rw [HQ.out])
      | (go_at_call 133; (with_reducible refine (use1_any (seg C o1 288) HL1.out k n d0 d1 _ ((HK.out.get 3 rfl).cell (k := 0) (by simp)) ((HK.out.get 2 rfl).cell (k := 0) (by simp))).mono ?_); rintro e u ⟨rfl, hb⟩; rw [hz]; have hk := HK.out.call hb; clear hb; clear HK; have HK := Lib.hid hk; clear hk)
      | (go_at_call 135; (with_reducible refine (giv1_any (seg C o2 288) HL2.out k n g0 g1 _ ((HK.out.get 1 rfl).cell (k := 0) (by simp)) ((HK.out.get 0 rfl).cell (k := 0) (by simp))).mono ?_); rintro e u ⟨rfl, hb⟩; have hk := HK.out.call hb; clear hb; clear HK; have HK := Lib.hid hk; clear hk)
      | (with_reducible refine store_part HK.out 5 288 r_info rfl rfl _ _ rfl rfl rfl rfl HA.out (by have := HC.out; omega) ?_; intro u hk hs; clear hs; simp only [List.set_cons_zero, List.set_cons_succ] at hk; clear HK; have HK := Lib.hid hk; clear hk)
      | (with_reducible refine store_part HK.out 5 288 r_info rfl rfl _ _ rfl rfl rfl rfl HB.out (by have := HC.out; have := HS.out; omega) ?_; intro u hk hs; clear hs; simp only [List.set_cons_zero, List.set_cons_succ] at hk; clear HK; have HK := Lib.hid hk; clear hk))
    go_ret
    rw [hz, (HE.out 0 _).1]
    refine ⟨_, rfl, by rw [splice_length, splice_length]; exact HC.out, ?_, HK.out⟩
    unfold bothA toldC
    rw [both_snd]
  · go_enter Tryz.func100, Tryz.ntmps100
    go_wp2_with (first
      | (with_reducible refine load_part HK.out 5 288 Tryz.underlying26 rfl r_info rfl _ rfl rfl rfl (by have := HC.out; omega) ?_)
      | (go_at_call 133; (with_reducible refine (use1_any (seg C o1 288) HL1.out k n d0 d1 _ ((HK.out.get 3 rfl).cell (k := 0) (by simp)) ((HK.out.get 2 rfl).cell (k := 0) (by simp))).mono ?_); rintro e u ⟨rfl, hb⟩; have hk := HK.out.call hb; clear hb; clear HK; have HK := Lib.hid hk; clear hk)
      | (with_reducible refine store_part HK.out 5 288 r_info rfl rfl _ _ rfl rfl rfl rfl HA.out (by have := HC.out; omega) ?_; intro u hk hs; clear hs; simp only [List.set_cons_zero, List.set_cons_succ] at hk; clear HK; have HK := Lib.hid hk; clear hk))
    go_ret
    rw [(HE.out _ _).2 hz]
    refine ⟨_, rfl, by rw [splice_length]; exact HC.out, ?_, HK.out⟩
    rw [bothA_no (by rw [both_fst hz]; exact hz)]
    simp only [toldC, hz, if_false]
set_option maxHeartbeats 1000000 in
theorem both_mm (o1 o2 : Nat) (h1 : o1 + 288 ≤ 579) (h2 : o2 + 288 ≤ 579) (hap : o2 + 288 ≤ o1 ∨ o1 + 288 ≤ o2) (C : List Int) (hC : C.length = 579) (i k p q : Int) (d0 d1 d2 g0 g1 g2 br bc : Nat) (w u : World) (hk : KeepR w [(g2, 3, [q]), (g1, 3, [k]), (g0, 3, [i]), (d2, 3, [p]), (d1, 3, [k]), (d0, 3, [i]), (br, 28, zer 579), (bc, 28, C)] u) :
    Calls Tryz.prog 100 #[.pointer (some ⟨bc, o1, none⟩), .func (Fn.func 138) #[] #[.pointer (some ⟨d0, 0, none⟩), .pointer (some ⟨d1, 0, none⟩), .pointer (some ⟨d2, 0, none⟩)], .pointer (some ⟨bc, o2, none⟩), .func (Fn.func 138) #[] #[.pointer (some ⟨g0, 0, none⟩), .pointer (some ⟨g1, 0, none⟩), .pointer (some ⟨g2, 0, none⟩)]] u fun e u' =>
      ∃ D : List Int, e = .returned (.int .i64 (bothE (moveE (seg C o1 288) i k p) (moveE (seg C o2 288) i k q))) ∧ D.length = 579 ∧ toldC D (bothE (moveE (seg C o1 288) i k p) (moveE (seg C o2 288) i k q)) = bothA C o1 (moveA (seg C o1 288) i k p) o2 (moveA (seg C o2 288) i k q) (moveE (seg C o1 288) i k p) (moveE (seg C o2 288) i k q) ∧ KeepR w [(g2, 3, [q]), (g1, 3, [k]), (g0, 3, [i]), (d2, 3, [p]), (d1, 3, [k]), (d0, 3, [i]), (br, 28, zer 579), (bc, 28, D)] u' := by
  have HK := Lib.hid hk; clear hk
  have HA := Lib.hid (show (moveA (seg C o1 288) i k p).length = 288 from moveA_length (seg_length (by omega)) _ _ _)
  have HB := Lib.hid (show (moveA (seg C o2 288) i k q).length = 288 from moveA_length (seg_length (by omega)) _ _ _)
  have HQ := Lib.hid (show seg (splice C o1 (moveA (seg C o1 288) i k p)) o2 288 = seg C o2 288 from splice_seg_apart (by have := HA.out; omega) (by omega) (by have := HA.out; omega))
  have HC := Lib.hid hC; clear hC
  have HL1 := Lib.hid (seg_length (R := C) (o := o1) (n := 288) (by have := HC.out; omega))
  have HL2 := Lib.hid (seg_length (R := C) (o := o2) (n := 288) (by have := HC.out; omega))
  have HS := Lib.hid (splice_length (moveA (seg C o1 288) i k p) C o1)
  have HE := Lib.hid (show ∀ x y : Int, bothE 0 y = y ∧ (x ≠ 0 → bothE x y = x) from fun x y => ⟨both_snd, fun h => both_fst h⟩)
  by_cases hz : moveE (seg C o1 288) i k p = 0
  · go_enter Tryz.func100, Tryz.ntmps100
    go_wp2_with (first
      | (with_reducible refine load_part HK.out 7 288 Tryz.underlying26 rfl r_info rfl _ rfl rfl rfl (by have := HC.out; omega) ?_)
      | (with_reducible refine load_part HK.out 7 288 Tryz.underlying26 rfl r_info rfl _ rfl rfl rfl (by have := HC.out; have := HS.out; omega) ?_; rw [HQ.out])
      | (go_at_call 138; (with_reducible refine (mov1_any (seg C o1 288) HL1.out i k p d0 d1 d2 _ ((HK.out.get 5 rfl).cell (k := 0) (by simp)) ((HK.out.get 4 rfl).cell (k := 0) (by simp)) ((HK.out.get 3 rfl).cell (k := 0) (by simp))).mono ?_); rintro e u ⟨rfl, hb⟩; rw [hz]; have hk := HK.out.call hb; clear hb; clear HK; have HK := Lib.hid hk; clear hk)
      | (go_at_call 138; (with_reducible refine (mov1_any (seg C o2 288) HL2.out i k q g0 g1 g2 _ ((HK.out.get 2 rfl).cell (k := 0) (by simp)) ((HK.out.get 1 rfl).cell (k := 0) (by simp)) ((HK.out.get 0 rfl).cell (k := 0) (by simp))).mono ?_); rintro e u ⟨rfl, hb⟩; have hk := HK.out.call hb; clear hb; clear HK; have HK := Lib.hid hk; clear hk)
      | (with_reducible refine store_part HK.out 7 288 r_info rfl rfl _ _ rfl rfl rfl rfl HA.out (by have := HC.out; omega) ?_; intro u hk hs; clear hs; simp only [List.set_cons_zero, List.set_cons_succ] at hk; clear HK; have HK := Lib.hid hk; clear hk)
      | (with_reducible refine store_part HK.out 7 288 r_info rfl rfl _ _ rfl rfl rfl rfl HB.out (by have := HC.out; have := HS.out; omega) ?_; intro u hk hs; clear hs; simp only [List.set_cons_zero, List.set_cons_succ] at hk; clear HK; have HK := Lib.hid hk; clear hk))
    go_ret
    rw [hz, (HE.out 0 _).1]
    refine ⟨_, rfl, by rw [splice_length, splice_length]; exact HC.out, ?_, HK.out⟩
    unfold bothA toldC
    rw [both_snd]
  · go_enter Tryz.func100, Tryz.ntmps100
    go_wp2_with (first
      | (with_reducible refine load_part HK.out 7 288 Tryz.underlying26 rfl r_info rfl _ rfl rfl rfl (by have := HC.out; omega) ?_)
      | (go_at_call 138; (with_reducible refine (mov1_any (seg C o1 288) HL1.out i k p d0 d1 d2 _ ((HK.out.get 5 rfl).cell (k := 0) (by simp)) ((HK.out.get 4 rfl).cell (k := 0) (by simp)) ((HK.out.get 3 rfl).cell (k := 0) (by simp))).mono ?_); rintro e u ⟨rfl, hb⟩; have hk := HK.out.call hb; clear hb; clear HK; have HK := Lib.hid hk; clear hk)
      | (with_reducible refine store_part HK.out 7 288 r_info rfl rfl _ _ rfl rfl rfl rfl HA.out (by have := HC.out; omega) ?_; intro u hk hs; clear hs; simp only [List.set_cons_zero, List.set_cons_succ] at hk; clear HK; have HK := Lib.hid hk; clear hk))
    go_ret
    rw [(HE.out _ _).2 hz]
    refine ⟨_, rfl, by rw [splice_length]; exact HC.out, ?_, HK.out⟩
    rw [bothA_no (by rw [both_fst hz]; exact hz)]
    simp only [toldC, hz, if_false]
set_option maxHeartbeats 1000000 in
theorem inc_any (C : List Int) (hC : C.length = 579) (k n : Int) (w : World) :
    Calls Tryz.prog 59 #[.agg (vals C).toArray, .int .i64 k, .int .i64 n] w fun e w' => e = .returned (.tuple #[.agg (vals (incA C k n)).toArray, .int .i64 (incE C k n)]) ∧ Below w.heap.size w w' := by
  have hmf : ∀ (fn : Fn) (first cap : Array Value) (w : World), (Instr.makeFunc fn first cap).run Tryz.prog w = .ok (.func fn first cap) w := fun _ _ _ _ => rfl
  have HC := Lib.hid hC; clear hC
  have HK := Lib.hid (KeepR.start w)
  have HA := Lib.hid (incA_length HC.out k n)
  go_enter Tryz.func59, Tryz.ntmps59
  go_wp2_with (first
    | (with_reducible refine box_new (R := C) HK.out rfl _ rfl rfl ?_; intro bc u hk hb; clear hb; clear HK; have HK := Lib.hid hk; clear hk)
    | (with_reducible refine alloc_zero HK.out 579 c_zero rfl rfl ?_; intro br u hn hk hb; clear hn hb; clear HK; have HK := Lib.hid hk; clear hk)
    | (go_at_call 101; (with_reducible refine (use_mk _ _ _).mono ?_); rintro e u ⟨x0, x1, rfl, hu⟩; have hk := HK.out.append hu; clear hu; simp only [List.cons_append, List.nil_append] at hk; clear HK; have HK := Lib.hid hk; clear hk)
    | (go_at_call 102; (with_reducible refine (giv_mk _ _ _).mono ?_); rintro e u ⟨x0, x1, rfl, hu⟩; have hk := HK.out.append hu; clear hu; simp only [List.cons_append, List.nil_append] at hk; clear HK; have HK := Lib.hid hk; clear hk)
    | (go_at_call 100; refine (both_ug 291 3 (by omega) (by omega) (by omega) C HC.out k n _ _ _ _ _ _ w _ HK.out).mono ?_; rintro e u ⟨D, rfl, hD, hT, hk⟩; have HD := Lib.hid hD; have HT := Lib.hid hT; clear hD hT; clear HK; have HK := Lib.hid hk; clear hk)
    | (with_reducible refine load_all HK.out 5 579 Tryz.underlying28 rfl c_info rfl _ rfl rfl rfl HD.out ?_)
    | (go_at_call 103; (with_reducible refine (told_c _ HD.out _ _).mono ?_); rintro e u ⟨rfl, hb⟩; rw [HT.out]; have hk := HK.out.call hb; clear hb; clear HK; have HK := Lib.hid hk; clear hk)
    | (with_reducible refine store_all HK.out 4 579 c_info rfl rfl _ _ rfl rfl rfl rfl HA.out (zer_length 579) ?_; intro u hk hs; clear hs; simp only [List.set_cons_zero, List.set_cons_succ] at hk; clear HK; have HK := Lib.hid hk; clear hk))
  exact bodyPost_ret (results_2 rfl Tryz.underlying28 rfl c_info _ HK.out 4 _ rfl rfl rfl HA.out) rfl ⟨rfl, HK.out.bel⟩
set_option maxHeartbeats 1000000 in
theorem dec_any (C : List Int) (hC : C.length = 579) (k n : Int) (w : World) :
    Calls Tryz.prog 60 #[.agg (vals C).toArray, .int .i64 k, .int .i64 n] w fun e w' => e = .returned (.tuple #[.agg (vals (decA C k n)).toArray, .int .i64 (decE C k n)]) ∧ Below w.heap.size w w' := by
  have hmf : ∀ (fn : Fn) (first cap : Array Value) (w : World), (Instr.makeFunc fn first cap).run Tryz.prog w = .ok (.func fn first cap) w := fun _ _ _ _ => rfl
  have HC := Lib.hid hC; clear hC
  have HK := Lib.hid (KeepR.start w)
  have HA := Lib.hid (decA_length HC.out k n)
  go_enter Tryz.func60, Tryz.ntmps60
  go_wp2_with (first
    | (with_reducible refine box_new (R := C) HK.out rfl _ rfl rfl ?_; intro bc u hk hb; clear hb; clear HK; have HK := Lib.hid hk; clear hk)
    | (with_reducible refine alloc_zero HK.out 579 c_zero rfl rfl ?_; intro br u hn hk hb; clear hn hb; clear HK; have HK := Lib.hid hk; clear hk)
    | (go_at_call 101; (with_reducible refine (use_mk _ _ _).mono ?_); rintro e u ⟨x0, x1, rfl, hu⟩; have hk := HK.out.append hu; clear hu; simp only [List.cons_append, List.nil_append] at hk; clear HK; have HK := Lib.hid hk; clear hk)
    | (go_at_call 102; (with_reducible refine (giv_mk _ _ _).mono ?_); rintro e u ⟨x0, x1, rfl, hu⟩; have hk := HK.out.append hu; clear hu; simp only [List.cons_append, List.nil_append] at hk; clear HK; have HK := Lib.hid hk; clear hk)
    | (go_at_call 100; refine (both_ug 3 291 (by omega) (by omega) (by omega) C HC.out k n _ _ _ _ _ _ w _ HK.out).mono ?_; rintro e u ⟨D, rfl, hD, hT, hk⟩; have HD := Lib.hid hD; have HT := Lib.hid hT; clear hD hT; clear HK; have HK := Lib.hid hk; clear hk)
    | (with_reducible refine load_all HK.out 5 579 Tryz.underlying28 rfl c_info rfl _ rfl rfl rfl HD.out ?_)
    | (go_at_call 103; (with_reducible refine (told_c _ HD.out _ _).mono ?_); rintro e u ⟨rfl, hb⟩; rw [HT.out]; have hk := HK.out.call hb; clear hb; clear HK; have HK := Lib.hid hk; clear hk)
    | (with_reducible refine store_all HK.out 4 579 c_info rfl rfl _ _ rfl rfl rfl rfl HA.out (zer_length 579) ?_; intro u hk hs; clear hs; simp only [List.set_cons_zero, List.set_cons_succ] at hk; clear HK; have HK := Lib.hid hk; clear hk))
  exact bodyPost_ret (results_2 rfl Tryz.underlying28 rfl c_info _ HK.out 4 _ rfl rfl rfl HA.out) rfl ⟨rfl, HK.out.bel⟩
set_option maxHeartbeats 1000000 in
theorem hand_any (C : List Int) (hC : C.length = 579) (i k p q : Int) (w : World) :
    Calls Tryz.prog 65 #[.agg (vals C).toArray, .int .i64 i, .int .i64 k, .int .i64 p, .int .i64 q] w fun e w' => e = .returned (.tuple #[.agg (vals (handA C i k p q)).toArray, .int .i64 (handE C i k p q)]) ∧ Below w.heap.size w w' := by
  have hmf : ∀ (fn : Fn) (first cap : Array Value) (w : World), (Instr.makeFunc fn first cap).run Tryz.prog w = .ok (.func fn first cap) w := fun _ _ _ _ => rfl
  have HC := Lib.hid hC; clear hC
  have HK := Lib.hid (KeepR.start w)
  have HA := Lib.hid (handA_length HC.out i k p q)
  go_enter Tryz.func65, Tryz.ntmps65
  go_wp2_with (first
    | (with_reducible refine box_new (R := C) HK.out rfl _ rfl rfl ?_; intro bc u hk hb; clear hb; clear HK; have HK := Lib.hid hk; clear hk)
    | (with_reducible refine alloc_zero HK.out 579 c_zero rfl rfl ?_; intro br u hn hk hb; clear hn hb; clear HK; have HK := Lib.hid hk; clear hk)
    | (go_at_call 106; (with_reducible refine (mov_mk _ _ _ _).mono ?_); rintro e u ⟨x0, x1, x2, rfl, hu⟩; have hk := HK.out.append hu; clear hu; simp only [List.cons_append, List.nil_append] at hk; clear HK; have HK := Lib.hid hk; clear hk)
    | (go_at_call 100; refine (both_mm 3 291 (by omega) (by omega) (by omega) C HC.out i k p q _ _ _ _ _ _ _ _ w _ HK.out).mono ?_; rintro e u ⟨D, rfl, hD, hT, hk⟩; have HD := Lib.hid hD; have HT := Lib.hid hT; clear hD hT; clear HK; have HK := Lib.hid hk; clear hk)
    | (with_reducible refine load_all HK.out 7 579 Tryz.underlying28 rfl c_info rfl _ rfl rfl rfl HD.out ?_)
    | (go_at_call 103; (with_reducible refine (told_c _ HD.out _ _).mono ?_); rintro e u ⟨rfl, hb⟩; rw [HT.out]; have hk := HK.out.call hb; clear hb; clear HK; have HK := Lib.hid hk; clear hk)
    | (with_reducible refine store_all HK.out 6 579 c_info rfl rfl _ _ rfl rfl rfl rfl HA.out (zer_length 579) ?_; intro u hk hs; clear hs; simp only [List.set_cons_zero, List.set_cons_succ] at hk; clear HK; have HK := Lib.hid hk; clear hk))
  exact bodyPost_ret (results_2 rfl Tryz.underlying28 rfl c_info _ HK.out 6 _ rfl rfl rfl HA.out) rfl ⟨rfl, HK.out.bel⟩
end Go.Proofs.YtbaccghnneidgaaGreat
