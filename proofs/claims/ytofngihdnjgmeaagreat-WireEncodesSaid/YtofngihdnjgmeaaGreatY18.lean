/- Contracts of counter.between and New, and of the document's New.; Contracts of counter.covers and Right, and of the document's Right.; Contracts of Right, of both, with isRightCounter, isRightLock and layer 5's Right of the document.; Contracts of hold.Reserve, End and Expire.; Fields as plain data, and what each call makes of them; fields that calls tell, in memory.; Contracts of the document's Add, Hand, Write, Pass, Reserve, End and Expire of fields, with layer 5's Write and Pass. -/
import Derived.Test.YtofngihdnjgmeaaGreatY01
import Derived.Test.YtofngihdnjgmeaaGreatY07
import Derived.Test.YtofngihdnjgmeaaGreatY09
import Derived.Test.YtofngihdnjgmeaaGreatY11
import Derived.Test.YtofngihdnjgmeaaGreatY12
import Derived.Test.YtofngihdnjgmeaaGreatY15A
import Derived.WalkKit
import Derived.ProofKit
import Derived.Lib.Hide
import Derived.Deep.RegionHeld3
import Derived.Below
import Derived.Deep.MidRow
import Derived.Deep.QuietTactic
import Derived.BigQuiet
import Derived.Laws.StructEq
import Derived.Laws.OwnMore
import Derived.WalkMore
import Derived.OpenShut
import Derived.ChangeOld
import Derived.Maps.AppendAt
import Derived.OwnWalk
import Derived.LoopTactic
import Derived.Defers
import Derived.Recover
import Derived.WalkSmall
import Derived.Lib.AppendZeros
import Derived.Deep.OwnRows
import Derived.Deep.Slices
import Derived.ChangeSlices
import Derived.Laws.AppendOwn
import Derived.Lib.SliceRun
import Derived.Shelf.SlSortCmp.WholeK
import Derived.Shelf.SlSortCmp.NoneTotal
namespace Go.Proofs.YtofngihdnjgmeaaGreat
set_option maxRecDepth 100000
open Go.ChangeShapes Go.WideShapes Go.ChangeAt Go.RowKit

def betB (n l h : Int) : Bool := isB l && isB h && decide (l ≤ n) && decide (n ≤ h)
theorem betB_iff {n l h : Int} : betB n l h = true ↔ isB l = true ∧ isB h = true ∧ l ≤ n ∧ n ≤ h := by
  simp only [betB, Bool.and_eq_true, decide_eq_true_eq, and_assoc]
theorem betB_no {n l h : Int} (hn : ¬ (isB l = true ∧ isB h = true ∧ l ≤ n ∧ n ≤ h)) : betB n l h = false := by
  rw [← Bool.not_eq_true, betB_iff]; exact hn
theorem newB_bet (i l h : Int) : newB i l h = (betB i l h && isB (h - l)) := rfl
theorem bet_any (n l h : Int) (w : World) :
    Calls Tryz.prog 99 #[.int .i64 n, .int .i64 l, .int .i64 h] w fun e w' => e = .returned (.bool (betB n l h)) ∧ w = w' := by
  cases hl : isB l with
  | false =>
    rw [show betB n l h = false from betB_no (fun hh => by rw [hl] at hh; cases hh.1)]
    go_enter Tryz.func99, Tryz.ntmps99
    go_wp2_with (first
      | (go_at_call 83; (with_reducible refine (is_any _ _).mono ?_); rintro e u ⟨rfl, rfl⟩))
    go_ret
    exact ⟨rfl, rfl⟩
  | true =>
    cases hh : isB h with
    | false =>
      rw [show betB n l h = false from betB_no (fun hx => by rw [hh] at hx; cases hx.2.1)]
      go_enter Tryz.func99, Tryz.ntmps99
      go_wp2_with (first
        | (go_at_call 83; (with_reducible refine (is_any _ _).mono ?_); rintro e u ⟨rfl, rfl⟩))
      go_ret
      exact ⟨rfl, rfl⟩
    | true =>
      by_cases h1 : l ≤ n
      · by_cases h2 : n ≤ h
        · rw [show betB n l h = true from betB_iff.2 ⟨hl, hh, h1, h2⟩]
          go_enter Tryz.func99, Tryz.ntmps99
          go_wp2_with (first
            | (go_at_call 83; (with_reducible refine (is_any _ _).mono ?_); rintro e u ⟨rfl, rfl⟩))
          go_ret
          exact ⟨rfl, rfl⟩
        · have d2 : decide (n ≤ h) = false := decide_eq_false h2
          rw [show betB n l h = false from betB_no (fun hx => h2 hx.2.2.2)]
          go_enter Tryz.func99, Tryz.ntmps99
          go_wp2_with (first
            | (go_at_call 83; (with_reducible refine (is_any _ _).mono ?_); rintro e u ⟨rfl, rfl⟩))
          go_ret
          exact ⟨by simp [], rfl⟩
      · rw [show betB n l h = false from betB_no (fun hx => h1 hx.2.2.1)]
        go_enter Tryz.func99, Tryz.ntmps99
        go_wp2_with (first
          | (go_at_call 83; (with_reducible refine (is_any _ _).mono ?_); rintro e u ⟨rfl, rfl⟩))
        go_ret
        exact ⟨rfl, rfl⟩
set_option maxRecDepth 100000 in
set_option maxHeartbeats 1000000 in
theorem new_any (i l h : Int) (w : World) :
    Calls Tryz.prog 53 #[.int .i64 i, .int .i64 l, .int .i64 h] w fun e w' => e = .returned (.tuple #[.agg (vals (newA i l h)).toArray, .int .i64 (newE i l h)]) ∧ Below w.heap.size w w' := by
  have HK := Lib.hid (KeepR.start w)
  have hbt := bet_any i l h
  have hsb := sub_any h l
  cases hb : betB i l h with
  | false =>
    obtain ⟨e1, e2⟩ := new_no (show newB i l h = false by rw [newB_bet, hb, Bool.false_and])
    rw [e1, e2]; clear e1 e2
    rw [hb] at hbt
    go_enter Tryz.func53, Tryz.ntmps53
    go_wp2_with (first
      | (with_reducible refine alloc_zero HK.out 579 c_zero rfl rfl ?_; intro br u hn hk hb; clear hn hb; clear HK; have HK := Lib.hid hk; clear hk)
      | (go_at_call 99; (with_reducible refine (hbt _).mono ?_); rintro e u ⟨rfl, rfl⟩)
      | (with_reducible refine build_zero 579 c_build rfl rfl ?_)
      | (with_reducible refine store_all HK.out 0 579 c_info rfl rfl _ _ rfl rfl rfl rfl (zer_length 579) (zer_length 579) ?_; intro u hk hs; clear hs; simp only [List.set_cons_zero] at hk; clear HK; have HK := Lib.hid hk; clear hk))
    exact bodyPost_ret (results_2 rfl Tryz.underlying28 rfl c_info _ HK.out 0 _ rfl rfl rfl (zer_length 579)) rfl ⟨rfl, HK.out.bel⟩
  | true =>
    rw [hb] at hbt
    obtain ⟨b1, b2, b3, b4⟩ := betB_iff.1 hb
    cases hd : isB (h - l) with
    | false =>
      obtain ⟨e1, e2⟩ := new_no (show newB i l h = false by rw [newB_bet, hb, hd, Bool.true_and])
      rw [e1, e2]; clear e1 e2
      obtain ⟨s1, s2⟩ := subE_no (okB_r (a := h) (b := l) hd)
      rw [s1, s2] at hsb
      clear b1 b2 b3 b4 hb hd s1 s2
      go_enter Tryz.func53, Tryz.ntmps53
      go_wp2_with (first
        | (with_reducible refine alloc_zero HK.out 579 c_zero rfl rfl ?_; intro br u hn hk hb; clear hn hb; clear HK; have HK := Lib.hid hk; clear hk)
        | (go_at_call 99; (with_reducible refine (hbt _).mono ?_); rintro e u ⟨rfl, rfl⟩)
        | (go_at_call 100; (with_reducible refine (hsb _).mono ?_); rintro e u ⟨rfl, rfl⟩)
        | (with_reducible refine build_zero 579 c_build rfl rfl ?_)
        | (with_reducible refine store_all HK.out 0 579 c_info rfl rfl _ _ rfl rfl rfl rfl (zer_length 579) (zer_length 579) ?_; intro u hk hs; clear hs; simp only [List.set_cons_zero] at hk; clear HK; have HK := Lib.hid hk; clear hk))
      exact bodyPost_ret (results_2 rfl Tryz.underlying28 rfl c_info _ HK.out 0 _ rfl rfl rfl (zer_length 579)) rfl ⟨rfl, HK.out.bel⟩
    | true =>
      obtain ⟨e1, e2⟩ := new_yes (show newB i l h = true by rw [newB_bet, hb, hd, Bool.true_and])
      rw [e1, e2]; clear e1 e2
      obtain ⟨s1, s2⟩ := subE_ok (okB_iff.2 ⟨b2, b1, hd⟩)
      rw [s1, s2] at hsb
      obtain ⟨l1, l2⟩ := isB_iff.1 b1
      obtain ⟨h1, h2⟩ := isB_iff.1 b2
      clear b1 b2 hb hd s1 s2
      have HN := Lib.hid (newC_length i l h)
      have HNQ := Lib.hid (new_stores i l h)
      go_enter Tryz.func53, Tryz.ntmps53
      go_wp2_with (first
        | (go_at_call 99; (with_reducible refine (hbt _).mono ?_); rintro e u ⟨rfl, rfl⟩)
        | (go_at_call 100; (with_reducible refine (hsb _).mono ?_); rintro e u ⟨rfl, rfl⟩)
        | (with_reducible refine alloc_zero HK.out 579 c_zero rfl rfl ?_; intro br u hn hk hb; clear hn hb; clear HK; have HK := Lib.hid hk; clear hk)
        | (with_reducible refine build_three rfl _ _ _ rfl rfl rfl rfl ?_)
        | (with_reducible refine store_all HK.out 0 579 c_info rfl rfl _ _ rfl rfl rfl rfl (three_length _ _ _) (zer_length 579) ?_; intro u hk hs; clear hs; simp only [List.set_cons_zero] at hk; clear HK; have HK := Lib.hid hk; clear hk)
        | (with_reducible refine store_int HK.out 0 rfl rfl _ _ rfl rfl rfl rfl (by simp [three_length]) ?_; intro u hk; simp only [List.set_cons_zero] at hk; clear HK; have HK := Lib.hid hk; clear hk)
        | (with_reducible refine load_all HK.out 0 579 Tryz.underlying28 rfl c_info rfl _ rfl rfl rfl (by simp [three_length]) ?_)
        | (with_reducible refine store_all HK.out 1 579 c_info rfl rfl _ _ rfl rfl rfl rfl (by simp [three_length]) (zer_length 579) ?_; intro u hk hs; clear hs; simp only [List.set_cons_zero, List.set_cons_succ] at hk; clear HK; have HK := Lib.hid hk; clear hk))
      exact bodyPost_ret (results_2 rfl Tryz.underlying28 rfl c_info _ HK.out 1 _ rfl rfl rfl (by simp [three_length])) rfl ⟨rfl, HK.out.bel⟩
end Go.Proofs.YtofngihdnjgmeaaGreat

namespace Go.Proofs.YtofngihdnjgmeaaGreat
set_option maxRecDepth 100000
open Go.ChangeShapes Go.WideShapes Go.ChangeAt Go.RowKit

theorem set_pair (f : Nat → Value) (v v' : Value) : ((Array.map f (Array.range 2)).setIfInBounds 0 v).setIfInBounds 1 v' = #[v, v'] := by
  apply Array.ext
  · simp
  · intro i h1 h2
    have : i = 0 ∨ i = 1 := by simp at h2; omega
    rcases this with rfl | rfl <;> simp
theorem run_pair (y z : Int) (u : World) : (Instr.buildSlice 159 2 #[(0, .int .i64 y), (1, .int .i64 z)]).run Tryz.prog u = .ok (.slice (some ⟨u.heap.size, 0, none⟩) 2 2) (u.alloc (.cells (vals [y, z]).toArray 3)) := by
  obtain ⟨i0, hi0, hz0, hz1, hz2⟩ := info_parts int_info
  simp [Instr.buildSlice, run_underlying Tryz.underlying159, sizeOf, typeInfo, zeroValue, hi0, hz0, hz1, Instr.fill, Value.cells, newRow, newObj, vals, set_pair]
  rfl
theorem build2 {ops : Array Oper} {rest : List Oper} {o : Oper} {a : Act} {w u : World} {l : List (Nat × TypeId × List Int)} {Q : Exit → Act → World → Prop} (hk : KeepR w l u) (hgd : o.guard = none) (x x' : Operand) (ho : o.op = .buildSlice 159 2 #[(0, x), (1, x')]) {y z : Int} (hx : a.eval x = .int .i64 y) (hx' : a.eval x' = .int .i64 z)
    (h : ∀ b u', KeepR w ((b, 3, [y, z]) :: l) u' → wpList Tryz.prog ops Q rest (a.put o.dst (.slice (some ⟨b, 0, none⟩) 2 2)) u') : wpList Tryz.prog ops Q (o :: rest) a u :=
  wpList_plain hgd fun _ hK => by
    unfold Oper.wp execOp
    simp only [ho, List.map_toArray, List.map_cons, List.map_nil, hx, hx', Sem.run_bind, Sem.run_pure, Result.andThen_ok, run_pair]
    exact hK _ _ (h _ _ (hk.new rfl))

set_option maxRecDepth 100000 in
set_option maxHeartbeats 1000000 in
theorem cov_any (G U : List Int) (hG : G.length = 16) (hU : U.length = 16) (h l : Int) (w : World) :
    Calls Tryz.prog 135 #[.agg (vals G).toArray, .int .i64 h, .int .i64 l, .agg (vals U).toArray] w fun e w' => e = .returned (.bool (covB G h l U)) ∧ Below w.heap.size w w' := by
  have HG := Lib.hid hG; clear hG
  have HU := Lib.hid hU; clear hU
  have HK := Lib.hid (KeepR.start w)
  have hs1 := fun b W (hr : Reads W (some ⟨b, 0, none⟩) 16 G) => sum_any (some ⟨b, 0, none⟩) 16 16 G W hr
  have hs2 := fun A c W (hr : Reads W A (2 + 16) (h :: ng l :: U)) => sum_any A (2 + 16) c (h :: ng l :: U) W hr
  have hcv : covB G h l U = ((sumE G == 0) && (sumE (h :: ng l :: U) == 0) && (sumN G == sumN (h :: ng l :: U))) := rfl
  rw [hcv]; clear hcv
  have hng : ∀ y : Int, wrap64 (-y) = ng y := fun y => rfl
  generalize sumE G = e1 at hs1 ⊢
  generalize sumN G = n1 at hs1 ⊢
  generalize sumE (h :: ng l :: U) = e2 at hs2 ⊢
  generalize sumN (h :: ng l :: U) = n2 at hs2 ⊢
  cases k0 : (e1 == 0) with
  | false =>
    simp only [Bool.false_and]
    go_enter Tryz.func135, Tryz.ntmps135
    go_wp2_with (first
      | (with_reducible refine box_new (R := G) HK.out rfl _ rfl rfl ?_; intro bg u hk hb; clear hb; clear HK; have HK := Lib.hid hk; clear hk)
      | (with_reducible refine box_new (R := U) HK.out rfl _ rfl rfl ?_; intro bu u hk hb; clear hb; clear HK; have HK := Lib.hid hk; clear hk)
      | (go_at_call 154; (with_reducible refine (hs1 _ _ ((HK.out.get 1 rfl).readsAll HG.out (by omega))).mono ?_); rintro e u ⟨rfl, hb⟩; have hk := HK.out.call hb; clear hb; clear HK; have HK := Lib.hid hk; clear hk)
      | (with_reducible refine build2 HK.out rfl _ _ rfl rfl rfl ?_; intro b u hk; have ho := (hk.get 0 rfl).own (hk.blk _ (List.mem_cons_self ..)).1 (n := 2) rfl (by omega); have HO := Lib.hid ho; clear ho; have hk1 := hk.tail; clear hk; have hk := hk1; clear hk1; clear HK; have HK := Lib.hid hk; clear hk)
      | (refine wpList_append_ints rfl _ _ rfl w.heap.size _ 2 [h, ng l] rfl HO.out _ 16 16 U rfl ((HK.out.get 0 rfl).readsAll HU.out (by omega)) (by omega) HK.out.bel.size ?_; intro v' u ho hg hv; have hk := HK.out.grown HO.out (by simp) hg; clear HO hg hv; simp only [List.cons_append, List.nil_append] at ho; obtain ⟨A, c, rfl⟩ := own_slice ho; have HV := Lib.hid (own_reads ho (by omega)).1; clear ho; clear HK; have HK := Lib.hid hk; clear hk)
      | (go_at_call 154; (with_reducible refine (hs2 _ _ _ HV.out).mono ?_); rintro e u ⟨rfl, hb⟩; have hk := HK.out.call hb; clear hb; clear HK; have HK := Lib.hid hk; clear hk))
    go_ret
    first
      | exact ⟨rfl, HK.out.bel⟩
      | exact ⟨by simp only [k0], HK.out.bel⟩
      | exact ⟨by simp [k0], HK.out.bel⟩
  | true =>
    cases k1 : (e2 == 0) with
    | false =>
      simp only [Bool.and_false, Bool.false_and]
      go_enter Tryz.func135, Tryz.ntmps135
      go_wp2_with (first
        | (with_reducible refine box_new (R := G) HK.out rfl _ rfl rfl ?_; intro bg u hk hb; clear hb; clear HK; have HK := Lib.hid hk; clear hk)
        | (with_reducible refine box_new (R := U) HK.out rfl _ rfl rfl ?_; intro bu u hk hb; clear hb; clear HK; have HK := Lib.hid hk; clear hk)
        | (go_at_call 154; (with_reducible refine (hs1 _ _ ((HK.out.get 1 rfl).readsAll HG.out (by omega))).mono ?_); rintro e u ⟨rfl, hb⟩; have hk := HK.out.call hb; clear hb; clear HK; have HK := Lib.hid hk; clear hk)
        | (with_reducible refine build2 HK.out rfl _ _ rfl rfl rfl ?_; intro b u hk; have ho := (hk.get 0 rfl).own (hk.blk _ (List.mem_cons_self ..)).1 (n := 2) rfl (by omega); have HO := Lib.hid ho; clear ho; have hk1 := hk.tail; clear hk; have hk := hk1; clear hk1; clear HK; have HK := Lib.hid hk; clear hk)
        | (refine wpList_append_ints rfl _ _ rfl w.heap.size _ 2 [h, ng l] rfl HO.out _ 16 16 U rfl ((HK.out.get 0 rfl).readsAll HU.out (by omega)) (by omega) HK.out.bel.size ?_; intro v' u ho hg hv; have hk := HK.out.grown HO.out (by simp) hg; clear HO hg hv; simp only [List.cons_append, List.nil_append] at ho; obtain ⟨A, c, rfl⟩ := own_slice ho; have HV := Lib.hid (own_reads ho (by omega)).1; clear ho; clear HK; have HK := Lib.hid hk; clear hk)
        | (go_at_call 154; (with_reducible refine (hs2 _ _ _ HV.out).mono ?_); rintro e u ⟨rfl, hb⟩; have hk := HK.out.call hb; clear hb; clear HK; have HK := Lib.hid hk; clear hk))
      go_ret
      first
        | exact ⟨rfl, HK.out.bel⟩
        | exact ⟨by simp only [k1], HK.out.bel⟩
        | exact ⟨by simp [k1], HK.out.bel⟩
    | true =>
      cases k2 : (n1 == n2) with
      | false =>
        simp only [Bool.and_true, Bool.and_false]
        go_enter Tryz.func135, Tryz.ntmps135
        go_wp2_with (first
          | (with_reducible refine box_new (R := G) HK.out rfl _ rfl rfl ?_; intro bg u hk hb; clear hb; clear HK; have HK := Lib.hid hk; clear hk)
          | (with_reducible refine box_new (R := U) HK.out rfl _ rfl rfl ?_; intro bu u hk hb; clear hb; clear HK; have HK := Lib.hid hk; clear hk)
          | (go_at_call 154; (with_reducible refine (hs1 _ _ ((HK.out.get 1 rfl).readsAll HG.out (by omega))).mono ?_); rintro e u ⟨rfl, hb⟩; have hk := HK.out.call hb; clear hb; clear HK; have HK := Lib.hid hk; clear hk)
          | (with_reducible refine build2 HK.out rfl _ _ rfl rfl rfl ?_; intro b u hk; have ho := (hk.get 0 rfl).own (hk.blk _ (List.mem_cons_self ..)).1 (n := 2) rfl (by omega); have HO := Lib.hid ho; clear ho; have hk1 := hk.tail; clear hk; have hk := hk1; clear hk1; clear HK; have HK := Lib.hid hk; clear hk)
          | (refine wpList_append_ints rfl _ _ rfl w.heap.size _ 2 [h, ng l] rfl HO.out _ 16 16 U rfl ((HK.out.get 0 rfl).readsAll HU.out (by omega)) (by omega) HK.out.bel.size ?_; intro v' u ho hg hv; have hk := HK.out.grown HO.out (by simp) hg; clear HO hg hv; simp only [List.cons_append, List.nil_append] at ho; obtain ⟨A, c, rfl⟩ := own_slice ho; have HV := Lib.hid (own_reads ho (by omega)).1; clear ho; clear HK; have HK := Lib.hid hk; clear hk)
          | (go_at_call 154; (with_reducible refine (hs2 _ _ _ HV.out).mono ?_); rintro e u ⟨rfl, hb⟩; have hk := HK.out.call hb; clear hb; clear HK; have HK := Lib.hid hk; clear hk))
        go_ret
        first
          | exact ⟨rfl, HK.out.bel⟩
          | exact ⟨by simp only [k2], HK.out.bel⟩
          | exact ⟨by simp [k2], HK.out.bel⟩
      | true =>
        simp only [Bool.and_self]
        go_enter Tryz.func135, Tryz.ntmps135
        go_wp2_with (first
          | (with_reducible refine box_new (R := G) HK.out rfl _ rfl rfl ?_; intro bg u hk hb; clear hb; clear HK; have HK := Lib.hid hk; clear hk)
          | (with_reducible refine box_new (R := U) HK.out rfl _ rfl rfl ?_; intro bu u hk hb; clear hb; clear HK; have HK := Lib.hid hk; clear hk)
          | (go_at_call 154; (with_reducible refine (hs1 _ _ ((HK.out.get 1 rfl).readsAll HG.out (by omega))).mono ?_); rintro e u ⟨rfl, hb⟩; have hk := HK.out.call hb; clear hb; clear HK; have HK := Lib.hid hk; clear hk)
          | (with_reducible refine build2 HK.out rfl _ _ rfl rfl rfl ?_; intro b u hk; have ho := (hk.get 0 rfl).own (hk.blk _ (List.mem_cons_self ..)).1 (n := 2) rfl (by omega); have HO := Lib.hid ho; clear ho; have hk1 := hk.tail; clear hk; have hk := hk1; clear hk1; clear HK; have HK := Lib.hid hk; clear hk)
          | (refine wpList_append_ints rfl _ _ rfl w.heap.size _ 2 [h, ng l] rfl HO.out _ 16 16 U rfl ((HK.out.get 0 rfl).readsAll HU.out (by omega)) (by omega) HK.out.bel.size ?_; intro v' u ho hg hv; have hk := HK.out.grown HO.out (by simp) hg; clear HO hg hv; simp only [List.cons_append, List.nil_append] at ho; obtain ⟨A, c, rfl⟩ := own_slice ho; have HV := Lib.hid (own_reads ho (by omega)).1; clear ho; clear HK; have HK := Lib.hid hk; clear hk)
          | (go_at_call 154; (with_reducible refine (hs2 _ _ _ HV.out).mono ?_); rintro e u ⟨rfl, hb⟩; have hk := HK.out.call hb; clear hb; clear HK; have HK := Lib.hid hk; clear hk))
        go_ret
        first
          | exact ⟨rfl, HK.out.bel⟩
          | exact ⟨by simp only [k2], HK.out.bel⟩
          | exact ⟨by simp [k2], HK.out.bel⟩

theorem right_prog {C : List Int} : rightC C = (betB (C.getD 0 0) (C.getD 1 0) (C.getD 2 0) && (rightsB (seg C 3 288) && (rightsB (seg C 291 288) && (covB (seg C 3 16) (C.getD 0 0) (C.getD 1 0) (seg C 307 16) && covB (seg C 291 16) (C.getD 2 0) (C.getD 0 0) (seg C 19 16))))) := by
  unfold rightC
  rw [show (isB (C.getD 1 0) && isB (C.getD 2 0) && decide (C.getD 1 0 ≤ C.getD 0 0) && decide (C.getD 0 0 ≤ C.getD 2 0)) = betB (C.getD 0 0) (C.getD 1 0) (C.getD 2 0) from rfl]
  cases hb : betB (C.getD 0 0) (C.getD 1 0) (C.getD 2 0) with
  | false => simp only [Bool.false_and]
  | true =>
    cases hd : rightsB (dnR C) with
    | false => rw [show rightsB (seg C 3 288) = false from hd]; simp only [Bool.false_and, Bool.and_false]
    | true =>
      cases hu : rightsB (upR C) with
      | false => rw [show rightsB (seg C 291 288) = false from hu]; simp only [Bool.false_and, Bool.and_false]
      | true =>
        rw [show rightsB (seg C 3 288) = true from hd, show rightsB (seg C 291 288) = true from hu]
        obtain ⟨b1, b2, b3, b4⟩ := betB_iff.1 hb
        obtain ⟨v1, v2, v3, v4⟩ := c_vecs hd hu
        have b0 : isB (C.getD 0 0) = true := by rw [isB_iff] at b1 b2 ⊢; omega
        rw [cov_tie b0 b1 b3 v1 v4, cov_tie b2 b0 b4 v3 v2]
        simp only [Bool.true_and]
set_option maxRecDepth 100000 in
set_option maxHeartbeats 2000000 in
theorem cright_any (C : List Int) (hC : C.length = 579) (w : World) :
    Calls Tryz.prog 117 #[.agg (vals C).toArray] w fun e w' => e = .returned (.bool (rightC C)) ∧ Below w.heap.size w w' := by
  have HK := Lib.hid (KeepR.start w)
  rw [right_prog]
  have L1 := Lib.hid (seg_length (R := C) (o := 3) (n := 288) (by omega))
  have L2 := Lib.hid (seg_length (R := C) (o := 291) (n := 288) (by omega))
  have V1 := Lib.hid (seg_length (R := C) (o := 3) (n := 16) (by omega))
  have V2 := Lib.hid (seg_length (R := C) (o := 307) (n := 16) (by omega))
  have V3 := Lib.hid (seg_length (R := C) (o := 291) (n := 16) (by omega))
  have V4 := Lib.hid (seg_length (R := C) (o := 19) (n := 16) (by omega))
  obtain ⟨p0, hp0⟩ : ∃ p, C.getD 0 0 = p := ⟨_, rfl⟩
  obtain ⟨p1, hp1⟩ : ∃ p, C.getD 1 0 = p := ⟨_, rfl⟩
  obtain ⟨p2, hp2⟩ : ∃ p, C.getD 2 0 = p := ⟨_, rfl⟩
  have hb := bet_any (C.getD 0 0) (C.getD 1 0) (C.getD 2 0)
  have hr1 := right_r (seg C 3 288) L1.out
  have hr2 := right_r (seg C 291 288) L2.out
  have hc1 := cov_any (seg C 3 16) (seg C 307 16) V1.out V2.out (C.getD 0 0) (C.getD 1 0)
  have hc2 := cov_any (seg C 291 16) (seg C 19 16) V3.out V4.out (C.getD 2 0) (C.getD 0 0)
  rw [hp0, hp1, hp2] at hb
  rw [hp0, hp1] at hc1
  rw [hp0, hp2] at hc2
  rw [hp0, hp1, hp2]
  have P0 := Lib.hid hp0; clear hp0
  have P1 := Lib.hid hp1; clear hp1
  have P2 := Lib.hid hp2; clear hp2
  have HC := Lib.hid hC; clear hC
  generalize betB p0 p1 p2 = x0 at hb ⊢
  generalize rightsB (seg C 3 288) = x1 at hr1 ⊢
  generalize rightsB (seg C 291 288) = x2 at hr2 ⊢
  generalize covB (seg C 3 16) p0 p1 (seg C 307 16) = x3 at hc1 ⊢
  generalize covB (seg C 291 16) p2 p0 (seg C 19 16) = x4 at hc2 ⊢
  cases x0 with
  | false =>
    simp only [Bool.false_and]
    go_enter Tryz.func117, Tryz.ntmps117
    go_wp2_with (first
      | (with_reducible refine box_new (R := C) HK.out rfl _ rfl rfl ?_; intro bc u hk hb; clear hb; clear HK; have HK := Lib.hid hk; clear hk)
      | (with_reducible refine load_val HK.out 0 rfl _ rfl rfl rfl P0.out (by have := HC.out; omega) ?_)
      | (with_reducible refine load_val HK.out 0 rfl _ rfl rfl rfl P1.out (by have := HC.out; omega) ?_)
      | (with_reducible refine load_val HK.out 0 rfl _ rfl rfl rfl P2.out (by have := HC.out; omega) ?_)
      | (with_reducible refine load_val_want HK.out 0 _ rfl rfl rfl rfl P0.out (by have := HC.out; omega) ?_)
      | (with_reducible refine load_val_want HK.out 0 _ rfl rfl rfl rfl P1.out (by have := HC.out; omega) ?_)
      | (with_reducible refine load_val_want HK.out 0 _ rfl rfl rfl rfl P2.out (by have := HC.out; omega) ?_)
      | (with_reducible refine load_want HK.out 0 288 Tryz.underlying26 rfl r_info _ rfl rfl rfl rfl (by have := HC.out; omega) ?_)
      | (with_reducible refine load_want HK.out 0 16 Tryz.underlying23 rfl vec_info _ rfl rfl rfl rfl (by have := HC.out; omega) ?_)
      | (go_at_call 99; (with_reducible refine (hb _).mono ?_); rintro e u ⟨rfl, rfl⟩)
      | (go_at_call 134; (with_reducible refine (hr1 _).mono ?_); rintro e u ⟨rfl, hb⟩; have hk := HK.out.call hb; clear hb; clear HK; have HK := Lib.hid hk; clear hk)
      | (go_at_call 134; (with_reducible refine (hr2 _).mono ?_); rintro e u ⟨rfl, hb⟩; have hk := HK.out.call hb; clear hb; clear HK; have HK := Lib.hid hk; clear hk)
      | (go_at_call 135; (with_reducible refine (hc1 _).mono ?_); rintro e u ⟨rfl, hb⟩; have hk := HK.out.call hb; clear hb; clear HK; have HK := Lib.hid hk; clear hk)
      | (go_at_call 135; (with_reducible refine (hc2 _).mono ?_); rintro e u ⟨rfl, hb⟩; have hk := HK.out.call hb; clear hb; clear HK; have HK := Lib.hid hk; clear hk))
    go_ret
    exact ⟨rfl, HK.out.bel⟩
  | true =>
    cases x1 with
    | false =>
      simp only [Bool.and_false, Bool.false_and]
      go_enter Tryz.func117, Tryz.ntmps117
      go_wp2_with (first
        | (with_reducible refine box_new (R := C) HK.out rfl _ rfl rfl ?_; intro bc u hk hb; clear hb; clear HK; have HK := Lib.hid hk; clear hk)
        | (with_reducible refine load_val HK.out 0 rfl _ rfl rfl rfl P0.out (by have := HC.out; omega) ?_)
        | (with_reducible refine load_val HK.out 0 rfl _ rfl rfl rfl P1.out (by have := HC.out; omega) ?_)
        | (with_reducible refine load_val HK.out 0 rfl _ rfl rfl rfl P2.out (by have := HC.out; omega) ?_)
        | (with_reducible refine load_val_want HK.out 0 _ rfl rfl rfl rfl P0.out (by have := HC.out; omega) ?_)
        | (with_reducible refine load_val_want HK.out 0 _ rfl rfl rfl rfl P1.out (by have := HC.out; omega) ?_)
        | (with_reducible refine load_val_want HK.out 0 _ rfl rfl rfl rfl P2.out (by have := HC.out; omega) ?_)
        | (with_reducible refine load_want HK.out 0 288 Tryz.underlying26 rfl r_info _ rfl rfl rfl rfl (by have := HC.out; omega) ?_)
        | (with_reducible refine load_want HK.out 0 16 Tryz.underlying23 rfl vec_info _ rfl rfl rfl rfl (by have := HC.out; omega) ?_)
        | (go_at_call 99; (with_reducible refine (hb _).mono ?_); rintro e u ⟨rfl, rfl⟩)
        | (go_at_call 134; (with_reducible refine (hr1 _).mono ?_); rintro e u ⟨rfl, hb⟩; have hk := HK.out.call hb; clear hb; clear HK; have HK := Lib.hid hk; clear hk)
        | (go_at_call 134; (with_reducible refine (hr2 _).mono ?_); rintro e u ⟨rfl, hb⟩; have hk := HK.out.call hb; clear hb; clear HK; have HK := Lib.hid hk; clear hk)
        | (go_at_call 135; (with_reducible refine (hc1 _).mono ?_); rintro e u ⟨rfl, hb⟩; have hk := HK.out.call hb; clear hb; clear HK; have HK := Lib.hid hk; clear hk)
        | (go_at_call 135; (with_reducible refine (hc2 _).mono ?_); rintro e u ⟨rfl, hb⟩; have hk := HK.out.call hb; clear hb; clear HK; have HK := Lib.hid hk; clear hk))
      go_ret
      exact ⟨rfl, HK.out.bel⟩
    | true =>
      cases x2 with
      | false =>
        simp only [Bool.and_false, Bool.false_and]
        go_enter Tryz.func117, Tryz.ntmps117
        go_wp2_with (first
          | (with_reducible refine box_new (R := C) HK.out rfl _ rfl rfl ?_; intro bc u hk hb; clear hb; clear HK; have HK := Lib.hid hk; clear hk)
          | (with_reducible refine load_val HK.out 0 rfl _ rfl rfl rfl P0.out (by have := HC.out; omega) ?_)
          | (with_reducible refine load_val HK.out 0 rfl _ rfl rfl rfl P1.out (by have := HC.out; omega) ?_)
          | (with_reducible refine load_val HK.out 0 rfl _ rfl rfl rfl P2.out (by have := HC.out; omega) ?_)
          | (with_reducible refine load_val_want HK.out 0 _ rfl rfl rfl rfl P0.out (by have := HC.out; omega) ?_)
          | (with_reducible refine load_val_want HK.out 0 _ rfl rfl rfl rfl P1.out (by have := HC.out; omega) ?_)
          | (with_reducible refine load_val_want HK.out 0 _ rfl rfl rfl rfl P2.out (by have := HC.out; omega) ?_)
          | (with_reducible refine load_want HK.out 0 288 Tryz.underlying26 rfl r_info _ rfl rfl rfl rfl (by have := HC.out; omega) ?_)
          | (with_reducible refine load_want HK.out 0 16 Tryz.underlying23 rfl vec_info _ rfl rfl rfl rfl (by have := HC.out; omega) ?_)
          | (go_at_call 99; (with_reducible refine (hb _).mono ?_); rintro e u ⟨rfl, rfl⟩)
          | (go_at_call 134; (with_reducible refine (hr1 _).mono ?_); rintro e u ⟨rfl, hb⟩; have hk := HK.out.call hb; clear hb; clear HK; have HK := Lib.hid hk; clear hk)
          | (go_at_call 134; (with_reducible refine (hr2 _).mono ?_); rintro e u ⟨rfl, hb⟩; have hk := HK.out.call hb; clear hb; clear HK; have HK := Lib.hid hk; clear hk)
          | (go_at_call 135; (with_reducible refine (hc1 _).mono ?_); rintro e u ⟨rfl, hb⟩; have hk := HK.out.call hb; clear hb; clear HK; have HK := Lib.hid hk; clear hk)
          | (go_at_call 135; (with_reducible refine (hc2 _).mono ?_); rintro e u ⟨rfl, hb⟩; have hk := HK.out.call hb; clear hb; clear HK; have HK := Lib.hid hk; clear hk))
        go_ret
        exact ⟨rfl, HK.out.bel⟩
      | true =>
        cases x3 with
        | false =>
          simp only [Bool.and_false, Bool.false_and]
          go_enter Tryz.func117, Tryz.ntmps117
          go_wp2_with (first
            | (with_reducible refine box_new (R := C) HK.out rfl _ rfl rfl ?_; intro bc u hk hb; clear hb; clear HK; have HK := Lib.hid hk; clear hk)
            | (with_reducible refine load_val HK.out 0 rfl _ rfl rfl rfl P0.out (by have := HC.out; omega) ?_)
            | (with_reducible refine load_val HK.out 0 rfl _ rfl rfl rfl P1.out (by have := HC.out; omega) ?_)
            | (with_reducible refine load_val HK.out 0 rfl _ rfl rfl rfl P2.out (by have := HC.out; omega) ?_)
            | (with_reducible refine load_val_want HK.out 0 _ rfl rfl rfl rfl P0.out (by have := HC.out; omega) ?_)
            | (with_reducible refine load_val_want HK.out 0 _ rfl rfl rfl rfl P1.out (by have := HC.out; omega) ?_)
            | (with_reducible refine load_val_want HK.out 0 _ rfl rfl rfl rfl P2.out (by have := HC.out; omega) ?_)
            | (with_reducible refine load_want HK.out 0 288 Tryz.underlying26 rfl r_info _ rfl rfl rfl rfl (by have := HC.out; omega) ?_)
            | (with_reducible refine load_want HK.out 0 16 Tryz.underlying23 rfl vec_info _ rfl rfl rfl rfl (by have := HC.out; omega) ?_)
            | (go_at_call 99; (with_reducible refine (hb _).mono ?_); rintro e u ⟨rfl, rfl⟩)
            | (go_at_call 134; (with_reducible refine (hr1 _).mono ?_); rintro e u ⟨rfl, hb⟩; have hk := HK.out.call hb; clear hb; clear HK; have HK := Lib.hid hk; clear hk)
            | (go_at_call 134; (with_reducible refine (hr2 _).mono ?_); rintro e u ⟨rfl, hb⟩; have hk := HK.out.call hb; clear hb; clear HK; have HK := Lib.hid hk; clear hk)
            | (go_at_call 135; (with_reducible refine (hc1 _).mono ?_); rintro e u ⟨rfl, hb⟩; have hk := HK.out.call hb; clear hb; clear HK; have HK := Lib.hid hk; clear hk)
            | (go_at_call 135; (with_reducible refine (hc2 _).mono ?_); rintro e u ⟨rfl, hb⟩; have hk := HK.out.call hb; clear hb; clear HK; have HK := Lib.hid hk; clear hk))
          go_ret
          exact ⟨rfl, HK.out.bel⟩
        | true =>
          cases x4 with
          | false =>
            simp only [Bool.and_false]
            go_enter Tryz.func117, Tryz.ntmps117
            go_wp2_with (first
              | (with_reducible refine box_new (R := C) HK.out rfl _ rfl rfl ?_; intro bc u hk hb; clear hb; clear HK; have HK := Lib.hid hk; clear hk)
              | (with_reducible refine load_val HK.out 0 rfl _ rfl rfl rfl P0.out (by have := HC.out; omega) ?_)
              | (with_reducible refine load_val HK.out 0 rfl _ rfl rfl rfl P1.out (by have := HC.out; omega) ?_)
              | (with_reducible refine load_val HK.out 0 rfl _ rfl rfl rfl P2.out (by have := HC.out; omega) ?_)
              | (with_reducible refine load_val_want HK.out 0 _ rfl rfl rfl rfl P0.out (by have := HC.out; omega) ?_)
              | (with_reducible refine load_val_want HK.out 0 _ rfl rfl rfl rfl P1.out (by have := HC.out; omega) ?_)
              | (with_reducible refine load_val_want HK.out 0 _ rfl rfl rfl rfl P2.out (by have := HC.out; omega) ?_)
              | (with_reducible refine load_want HK.out 0 288 Tryz.underlying26 rfl r_info _ rfl rfl rfl rfl (by have := HC.out; omega) ?_)
              | (with_reducible refine load_want HK.out 0 16 Tryz.underlying23 rfl vec_info _ rfl rfl rfl rfl (by have := HC.out; omega) ?_)
              | (go_at_call 99; (with_reducible refine (hb _).mono ?_); rintro e u ⟨rfl, rfl⟩)
              | (go_at_call 134; (with_reducible refine (hr1 _).mono ?_); rintro e u ⟨rfl, hb⟩; have hk := HK.out.call hb; clear hb; clear HK; have HK := Lib.hid hk; clear hk)
              | (go_at_call 134; (with_reducible refine (hr2 _).mono ?_); rintro e u ⟨rfl, hb⟩; have hk := HK.out.call hb; clear hb; clear HK; have HK := Lib.hid hk; clear hk)
              | (go_at_call 135; (with_reducible refine (hc1 _).mono ?_); rintro e u ⟨rfl, hb⟩; have hk := HK.out.call hb; clear hb; clear HK; have HK := Lib.hid hk; clear hk)
              | (go_at_call 135; (with_reducible refine (hc2 _).mono ?_); rintro e u ⟨rfl, hb⟩; have hk := HK.out.call hb; clear hb; clear HK; have HK := Lib.hid hk; clear hk))
            go_ret
            exact ⟨rfl, HK.out.bel⟩
          | true =>
            simp only [Bool.and_self]
            go_enter Tryz.func117, Tryz.ntmps117
            go_wp2_with (first
              | (with_reducible refine box_new (R := C) HK.out rfl _ rfl rfl ?_; intro bc u hk hb; clear hb; clear HK; have HK := Lib.hid hk; clear hk)
              | (with_reducible refine load_val HK.out 0 rfl _ rfl rfl rfl P0.out (by have := HC.out; omega) ?_)
              | (with_reducible refine load_val HK.out 0 rfl _ rfl rfl rfl P1.out (by have := HC.out; omega) ?_)
              | (with_reducible refine load_val HK.out 0 rfl _ rfl rfl rfl P2.out (by have := HC.out; omega) ?_)
              | (with_reducible refine load_val_want HK.out 0 _ rfl rfl rfl rfl P0.out (by have := HC.out; omega) ?_)
              | (with_reducible refine load_val_want HK.out 0 _ rfl rfl rfl rfl P1.out (by have := HC.out; omega) ?_)
              | (with_reducible refine load_val_want HK.out 0 _ rfl rfl rfl rfl P2.out (by have := HC.out; omega) ?_)
              | (with_reducible refine load_want HK.out 0 288 Tryz.underlying26 rfl r_info _ rfl rfl rfl rfl (by have := HC.out; omega) ?_)
              | (with_reducible refine load_want HK.out 0 16 Tryz.underlying23 rfl vec_info _ rfl rfl rfl rfl (by have := HC.out; omega) ?_)
              | (go_at_call 99; (with_reducible refine (hb _).mono ?_); rintro e u ⟨rfl, rfl⟩)
              | (go_at_call 134; (with_reducible refine (hr1 _).mono ?_); rintro e u ⟨rfl, hb⟩; have hk := HK.out.call hb; clear hb; clear HK; have HK := Lib.hid hk; clear hk)
              | (go_at_call 134; (with_reducible refine (hr2 _).mono ?_); rintro e u ⟨rfl, hb⟩; have hk := HK.out.call hb; clear hb; clear HK; have HK := Lib.hid hk; clear hk)
              | (go_at_call 135; (with_reducible refine (hc1 _).mono ?_); rintro e u ⟨rfl, hb⟩; have hk := HK.out.call hb; clear hb; clear HK; have HK := Lib.hid hk; clear hk)
              | (go_at_call 135; (with_reducible refine (hc2 _).mono ?_); rintro e u ⟨rfl, hb⟩; have hk := HK.out.call hb; clear hb; clear HK; have HK := Lib.hid hk; clear hk))
            go_ret
            exact ⟨rfl, HK.out.bel⟩
end Go.Proofs.YtofngihdnjgmeaaGreat

namespace Go.Proofs.YtofngihdnjgmeaaGreat
set_option maxRecDepth 100000
open Go.ChangeShapes Go.WideShapes Go.ChangeAt Go.RowKit

section
variable {ops : Array Oper} {rest : List Oper} {o : Oper} {a : Act} {u : World} {Q : Exit → Act → World → Prop}
/-- The zero value, built where it is wanted. -/
theorem build_fw {ty : TypeId} {v : Value} (he : ∀ W, (Instr.build ty #[]).run Tryz.prog W = .ok v W) (ho : o.op = .build ty #[]) (hw : Region.wanted o (yielded ops a.tmps) = true)
    (h : wpList Tryz.prog ops Q rest (a.put o.dst v) u) : wpList Tryz.prog ops Q (o :: rest) a u :=
  BigFrame.wpList_want hw fun K hK => by
    unfold Oper.wp execOp
    simp only [ho, List.map_toArray, List.map_nil, Sem.run_bind, Sem.run_pure, Result.andThen_ok, he]
    exact hK _ _ h
/-- Two structs are compared. -/
theorem eql_fw {ty : TypeId} {xs ys : List Value} {r : Bool} (hge : Tryz.prog.eqGuardType Tryz.prog.depth ty = false) (hq : ∀ W, (Op.equalIn 10000 ty (.agg xs.toArray) (.agg ys.toArray)).run Tryz.prog W = .ok r W) (x y : Operand) (t : TypeId) (ho : o.op = .binOp .eql ty x y t) (hx : a.eval x = .agg xs.toArray) (hy : a.eval y = .agg ys.toArray) (hw : Region.wanted o (yielded ops a.tmps) = true)
    (h : wpList Tryz.prog ops Q rest (a.put o.dst (.bool r)) u) : wpList Tryz.prog ops Q (o :: rest) a u :=
  BigFrame.wpList_want hw fun K hK => by
    have := hK _ _ h
    unfold Oper.wp execOp
    simp only [ho, hx, hy]
    simp [go_sem, hq, hge]
    simpa [Act.put] using this
end
theorem c_guardF : Tryz.prog.eqGuardType Tryz.prog.depth 28 = false := by kernel_rfl
theorem l_buildF (W : World) : (Instr.build 30 #[]).run Tryz.prog W = .ok (.agg (vals zL.l).toArray) W := by kernel_rfl
def rcB (f : Fd) (hs : List Ho) : Bool := (f.k == 1) && rightC f.C && rightsL hs && (f.L.l == zL.l)
def rlB (f : Fd) : Bool := (f.k == 2) && rightL f.L && decide (f.n = 0) && (f.C == zer 579)
def epB (e : Int) : Bool := decide (0 ≤ e) && isB e
def rightF (f : Fd) (hs : List Ho) : Bool := (nameB f.nm && epB f.e) && (rcB f hs || rlB f)
theorem irc_any (f : Fd) (hf : f.full) (hs : List Ho) (w : World) (hd : Row w f.A f.n hs) (r : Bool) (hr : rcB f hs = r) :
    Calls Tryz.prog 84 #[.agg f.cells.toArray] w fun e w' => e = .returned (.bool r) ∧ Below w.heap.size w w' := by
  have HK := Lib.hid (KeepF.start (w := w) (rows := [(f.A, f.n, hs)]) (by simpa using hd))
  have HF := Lib.hid hf; clear hf
  have HC := Lib.hid (c_infoF HF.out)
  subst hr
  by_cases h1 : f.k = 1
  · have hk1 : f.cells[1]? = some (.int .i64 1) := by rw [Fd.c1, h1]
    have hcl := cright_any f.C HF.out
    cases h2 : rightC f.C with
    | false =>
      rw [h2] at hcl
      rw [show rcB f hs = false by simp [rcB, h2]]
      go_enter Tryz.func84, Tryz.ntmps84
      go_wp2_with (first
        | (with_reducible refine box_f HK.out rfl _ rfl rfl ?_; intro b u hk; clear HK; have HK := Lib.hid hk; clear hk)
        | (with_reducible refine load_f1 HK.out 0 cbI _ rfl rfl rfl rfl hk1 ?_)
        | (with_reducible refine load_fr HK.out 0 Tryz.underlying28 rfl HC.out _ rfl rfl rfl rfl (Fd.cC f) ?_)
        | (go_at_call 117; (with_reducible refine (hcl _).mono ?_); rintro e u ⟨rfl, hb⟩; have hk := HK.out.call hb; clear hb; clear HK; have HK := Lib.hid hk; clear hk))
      go_ret
      exact ⟨rfl, HK.out.bel⟩
    | true =>
      rw [h2] at hcl
      have hrt := rights_any f.A f.n f.c hs
      cases h3 : rightsL hs with
      | false =>
        rw [h3] at hrt
        rw [show rcB f hs = false by simp [rcB, h3]]
        go_enter Tryz.func84, Tryz.ntmps84
        go_wp2_with (first
          | (with_reducible refine box_f HK.out rfl _ rfl rfl ?_; intro b u hk; clear HK; have HK := Lib.hid hk; clear hk)
          | (with_reducible refine load_f1 HK.out 0 cbI _ rfl rfl rfl rfl hk1 ?_)
          | (with_reducible refine load_fr HK.out 0 Tryz.underlying28 rfl HC.out _ rfl rfl rfl rfl (Fd.cC f) ?_)
          | (with_reducible refine load_f1 HK.out 0 cbH _ rfl rfl rfl rfl (Fd.cH HF.out) ?_)
          | (go_at_call 117; (with_reducible refine (hcl _).mono ?_); rintro e u ⟨rfl, hb⟩; have hk := HK.out.call hb; clear hb; clear HK; have HK := Lib.hid hk; clear hk)
          | (go_at_call 94; (with_reducible refine (hrt _ (HK.out.rowAt 0 rfl)).mono ?_); rintro e u ⟨rfl, hb⟩; have hk := HK.out.call hb; clear hb; clear HK; have HK := Lib.hid hk; clear hk))
        go_ret
        exact ⟨rfl, HK.out.bel⟩
      | true =>
        rw [h3] at hrt
        rw [show rcB f hs = (f.L.l == zL.l) by simp [rcB, h1, h2, h3]]
        have HQ := Lib.hid (eql_lk f.L zL)
        generalize (f.L.l == zL.l) = r at HQ ⊢
        go_enter Tryz.func84, Tryz.ntmps84
        go_wp2_with (first
          | (with_reducible refine box_f HK.out rfl _ rfl rfl ?_; intro b u hk; clear HK; have HK := Lib.hid hk; clear hk)
          | (with_reducible refine load_f1 HK.out 0 cbI _ rfl rfl rfl rfl hk1 ?_)
          | (with_reducible refine load_fr HK.out 0 Tryz.underlying28 rfl HC.out _ rfl rfl rfl rfl (Fd.cC f) ?_)
          | (with_reducible refine load_f1 HK.out 0 cbH _ rfl rfl rfl rfl (Fd.cH HF.out) ?_)
          | (with_reducible refine load_fr HK.out 0 Tryz.underlying30 rfl (l_infoF f.L) _ rfl rfl rfl rfl (Fd.cL HF.out) ?_)
          | (with_reducible refine build_fw l_buildF rfl rfl ?_)
          | (with_reducible refine eql_fw lk_guard HQ.out _ _ _ rfl rfl rfl rfl ?_)
          | (go_at_call 117; (with_reducible refine (hcl _).mono ?_); rintro e u ⟨rfl, hb⟩; have hk := HK.out.call hb; clear hb; clear HK; have HK := Lib.hid hk; clear hk)
          | (go_at_call 94; (with_reducible refine (hrt _ (HK.out.rowAt 0 rfl)).mono ?_); rintro e u ⟨rfl, hb⟩; have hk := HK.out.call hb; clear hb; clear HK; have HK := Lib.hid hk; clear hk))
        go_ret
        exact ⟨rfl, HK.out.bel⟩
  · have hk1 := Fd.c1 f
    rw [show rcB f hs = false by simp [rcB, h1]]
    generalize f.k = K at h1 hk1
    go_enter Tryz.func84, Tryz.ntmps84
    go_wp2_with (first
      | (with_reducible refine box_f HK.out rfl _ rfl rfl ?_; intro b u hk; clear HK; have HK := Lib.hid hk; clear hk)
      | (with_reducible refine load_f1 HK.out 0 cbI _ rfl rfl rfl rfl hk1 ?_))
    go_ret
    exact ⟨rfl, HK.out.bel⟩
theorem irl_any (f : Fd) (hf : f.full) (hs : List Ho) (w : World) (hd : Row w f.A f.n hs) (r : Bool) (hr : rlB f = r) :
    Calls Tryz.prog 85 #[.agg f.cells.toArray] w fun e w' => e = .returned (.bool r) ∧ Below w.heap.size w w' := by
  have HK := Lib.hid (KeepF.start (w := w) (rows := [(f.A, f.n, hs)]) (by simpa using hd))
  have HF := Lib.hid hf; clear hf
  have HC := Lib.hid (c_infoF HF.out)
  subst hr
  by_cases h1 : f.k = 2
  · have hk1 : f.cells[1]? = some (.int .i64 2) := by rw [Fd.c1, h1]
    have hcl := lright_any f.L
    cases h2 : rightL f.L with
    | false =>
      rw [h2] at hcl
      rw [show rlB f = false by simp [rlB, h2]]
      go_enter Tryz.func85, Tryz.ntmps85
      go_wp2_with (first
        | (with_reducible refine box_f HK.out rfl _ rfl rfl ?_; intro b u hk; clear HK; have HK := Lib.hid hk; clear hk)
        | (with_reducible refine load_f1 HK.out 0 cbI _ rfl rfl rfl rfl hk1 ?_)
        | (with_reducible refine load_fr HK.out 0 Tryz.underlying30 rfl (l_infoF f.L) _ rfl rfl rfl rfl (Fd.cL HF.out) ?_)
        | (go_at_call 118; (with_reducible refine (hcl _).mono ?_); rintro e u ⟨rfl, hb⟩; have hk := HK.out.call hb; clear hb; clear HK; have HK := Lib.hid hk; clear hk))
      go_ret
      exact ⟨rfl, HK.out.bel⟩
    | true =>
      rw [h2] at hcl
      have hcH := Fd.cH HF.out
      have HC1 := Lib.hid (Fd.cC f)
      by_cases h3 : f.n = 0
      · rw [show rlB f = (f.C == zer 579) by simp [rlB, h1, h2, h3]]
        rw [h3] at hcH
        have HQ := Lib.hid (eql_c f.C (zer 579) HF.out (zer_length 579))
        generalize (f.C == zer 579) = r at HQ ⊢
        go_enter Tryz.func85, Tryz.ntmps85
        go_wp2_with (first
          | (with_reducible refine box_f HK.out rfl _ rfl rfl ?_; intro b u hk; clear HK; have HK := Lib.hid hk; clear hk)
          | (with_reducible refine load_f1 HK.out 0 cbI _ rfl rfl rfl rfl hk1 ?_)
          | (with_reducible refine load_fr HK.out 0 Tryz.underlying30 rfl (l_infoF f.L) _ rfl rfl rfl rfl (Fd.cL HF.out) ?_)
          | (with_reducible refine load_f1 HK.out 0 cbH _ rfl rfl rfl rfl hcH ?_)
          | (with_reducible refine load_fr HK.out 0 Tryz.underlying28 rfl HC.out _ rfl rfl rfl rfl (Fd.cC f) ?_)
          | (with_reducible refine build_fw c_build rfl rfl ?_)
          | (with_reducible refine eql_fw c_guardF HQ.out _ _ _ rfl rfl rfl rfl ?_)
          | (go_at_call 118; (with_reducible refine (hcl _).mono ?_); rintro e u ⟨rfl, hb⟩; have hk := HK.out.call hb; clear hb; clear HK; have HK := Lib.hid hk; clear hk))
        go_ret
        exact ⟨rfl, HK.out.bel⟩
      · rw [show rlB f = false by simp [rlB, h3]]
        have h3' : ((f.n : Int) == 0) = false := by rw [beq_eq_false_iff_ne]; omega
        generalize f.n = n at h3 h3' hcH HK
        go_enter Tryz.func85, Tryz.ntmps85
        go_wp2_with (first
          | (with_reducible refine box_f HK.out rfl _ rfl rfl ?_; intro b u hk; clear HK; have HK := Lib.hid hk; clear hk)
          | (with_reducible refine load_f1 HK.out 0 cbI _ rfl rfl rfl rfl hk1 ?_)
          | (with_reducible refine load_fr HK.out 0 Tryz.underlying30 rfl (l_infoF f.L) _ rfl rfl rfl rfl (Fd.cL HF.out) ?_)
          | (with_reducible refine load_f1 HK.out 0 cbH _ rfl rfl rfl rfl hcH ?_)
          | (go_at_call 118; (with_reducible refine (hcl _).mono ?_); rintro e u ⟨rfl, hb⟩; have hk := HK.out.call hb; clear hb; clear HK; have HK := Lib.hid hk; clear hk))
        go_ret
        exact ⟨rfl, HK.out.bel⟩
  · have hk1 := Fd.c1 f
    rw [show rlB f = false by simp [rlB, h1]]
    generalize f.k = K at h1 hk1
    go_enter Tryz.func85, Tryz.ntmps85
    go_wp2_with (first
      | (with_reducible refine box_f HK.out rfl _ rfl rfl ?_; intro b u hk; clear HK; have HK := Lib.hid hk; clear hk)
      | (with_reducible refine load_f1 HK.out 0 cbI _ rfl rfl rfl rfl hk1 ?_))
    go_ret
    exact ⟨rfl, HK.out.bel⟩
theorem is_eq (n : Int) (r : Bool) (hr : isB n = r) (w : World) : Calls Tryz.prog 83 #[.int .i64 n] w fun e w' => e = .returned (.bool r) ∧ w = w' := by subst hr; exact is_any n w
set_option maxHeartbeats 4000000 in
theorem right_any7 (f : Fd) (hf : f.full) (hN : f.nm.size ≤ 1000) (hs : List Ho) (w : World) (hd : Row w f.A f.n hs) (r : Bool) (hr : rightF f hs = r) :
    Calls Tryz.prog 38 #[.agg f.cells.toArray] w fun e w' => e = .returned (.bool r) ∧ Below w.heap.size w w' := by
  have HK := Lib.hid (KeepF.start (w := w) (rows := [(f.A, f.n, hs)]) (by simpa using hd))
  have HF := Lib.hid hf; clear hf
  have HC := Lib.hid (c_infoF HF.out)
  have HI := Lib.hid (f_infoF HF.out)
  subst hr
  have hnm := fname_any f.nm hN
  have hrc := fun w h => irc_any f HF.out hs w h _ rfl
  have hrl := fun w h => irl_any f HF.out hs w h _ rfl
  cases h1 : nameB f.nm with
  | false =>
    rw [h1] at hnm
    rw [show rightF f hs = false by simp [rightF, h1]]
    go_enter Tryz.func38, Tryz.ntmps38
    go_wp2_with (first
      | (with_reducible refine box_f HK.out rfl _ rfl rfl ?_; intro b u hk; clear HK; have HK := Lib.hid hk; clear hk)
      | (with_reducible refine load_f1 HK.out 0 cbS _ rfl rfl rfl rfl (Fd.c0 f) ?_)
      | (go_at_call 52; (with_reducible refine (hnm _).mono ?_); rintro e u ⟨rfl, hb⟩; have hk := HK.out.call hb; clear hb; clear HK; have HK := Lib.hid hk; clear hk))
    go_ret
    exact ⟨rfl, HK.out.bel⟩
  | true =>
    rw [h1] at hnm
    cases h2 : decide (0 ≤ f.e) with
    | false =>
      rw [show rightF f hs = false by simp [rightF, epB, h2]]
      go_enter Tryz.func38, Tryz.ntmps38
      go_wp2_with (first
        | (with_reducible refine box_f HK.out rfl _ rfl rfl ?_; intro b u hk; clear HK; have HK := Lib.hid hk; clear hk)
        | (with_reducible refine load_f1 HK.out 0 cbS _ rfl rfl rfl rfl (Fd.c0 f) ?_)
        | (with_reducible refine load_f1 HK.out 0 cbI _ rfl rfl rfl rfl (Fd.c2 f) ?_)
        | (go_at_call 52; (with_reducible refine (hnm _).mono ?_); rintro e u ⟨rfl, hb⟩; have hk := HK.out.call hb; clear hb; clear HK; have HK := Lib.hid hk; clear hk))
      go_ret
      exact ⟨rfl, HK.out.bel⟩
    | true =>
      cases h3 : isB f.e with
      | false =>
        rw [show rightF f hs = false by simp [rightF, epB, h3]]
        go_enter Tryz.func38, Tryz.ntmps38
        go_wp2_with (first
          | (with_reducible refine box_f HK.out rfl _ rfl rfl ?_; intro b u hk; clear HK; have HK := Lib.hid hk; clear hk)
          | (with_reducible refine load_f1 HK.out 0 cbS _ rfl rfl rfl rfl (Fd.c0 f) ?_)
          | (with_reducible refine load_f1 HK.out 0 cbI _ rfl rfl rfl rfl (Fd.c2 f) ?_)
          | (go_at_call 52; (with_reducible refine (hnm _).mono ?_); rintro e u ⟨rfl, hb⟩; have hk := HK.out.call hb; clear hb; clear HK; have HK := Lib.hid hk; clear hk)
          | (go_at_call 83; (with_reducible refine (is_eq _ _ h3 _).mono ?_); rintro e u ⟨rfl, rfl⟩))
        go_ret
        exact ⟨rfl, HK.out.bel⟩
      | true =>
        cases h4 : rcB f hs with
        | true =>
          rw [h4] at hrc
          rw [show rightF f hs = true by simp [rightF, epB, h1, h2, h3, h4]]
          go_enter Tryz.func38, Tryz.ntmps38
          go_wp2_with (first
            | (with_reducible refine box_f HK.out rfl _ rfl rfl ?_; intro b u hk; clear HK; have HK := Lib.hid hk; clear hk)
            | (with_reducible refine load_f1 HK.out 0 cbS _ rfl rfl rfl rfl (Fd.c0 f) ?_)
            | (with_reducible refine load_f1 HK.out 0 cbI _ rfl rfl rfl rfl (Fd.c2 f) ?_)
            | (with_reducible refine load_fr HK.out 0 Tryz.underlying33 rfl HI.out _ rfl rfl rfl rfl (Fd.all f) ?_)
            | (go_at_call 52; (with_reducible refine (hnm _).mono ?_); rintro e u ⟨rfl, hb⟩; have hk := HK.out.call hb; clear hb; clear HK; have HK := Lib.hid hk; clear hk)
            | (go_at_call 83; (with_reducible refine (is_eq _ _ h3 _).mono ?_); rintro e u ⟨rfl, rfl⟩)
            | (go_at_call 84; (with_reducible refine (hrc _ (HK.out.rowAt 0 rfl)).mono ?_); rintro e u ⟨rfl, hb⟩; have hk := HK.out.call hb; clear hb; clear HK; have HK := Lib.hid hk; clear hk))
          go_ret
          exact ⟨rfl, HK.out.bel⟩
        | false =>
          rw [h4] at hrc
          rw [show rightF f hs = rlB f by simp [rightF, epB, h1, h2, h3, h4]]
          generalize rlB f = r at hrl ⊢
          go_enter Tryz.func38, Tryz.ntmps38
          go_wp2_with (first
            | (with_reducible refine box_f HK.out rfl _ rfl rfl ?_; intro b u hk; clear HK; have HK := Lib.hid hk; clear hk)
            | (with_reducible refine load_f1 HK.out 0 cbS _ rfl rfl rfl rfl (Fd.c0 f) ?_)
            | (with_reducible refine load_f1 HK.out 0 cbI _ rfl rfl rfl rfl (Fd.c2 f) ?_)
            | (with_reducible refine load_fr HK.out 0 Tryz.underlying33 rfl HI.out _ rfl rfl rfl rfl (Fd.all f) ?_)
            | (go_at_call 52; (with_reducible refine (hnm _).mono ?_); rintro e u ⟨rfl, hb⟩; have hk := HK.out.call hb; clear hb; clear HK; have HK := Lib.hid hk; clear hk)
            | (go_at_call 83; (with_reducible refine (is_eq _ _ h3 _).mono ?_); rintro e u ⟨rfl, rfl⟩)
            | (go_at_call 84; (with_reducible refine (hrc _ (HK.out.rowAt 0 rfl)).mono ?_); rintro e u ⟨rfl, hb⟩; have hk := HK.out.call hb; clear hb; clear HK; have HK := Lib.hid hk; clear hk)
            | (go_at_call 85; (with_reducible refine (hrl _ (HK.out.rowAt 0 rfl)).mono ?_); rintro e u ⟨rfl, hb⟩; have hk := HK.out.call hb; clear hb; clear HK; have HK := Lib.hid hk; clear hk))
          go_ret
          exact ⟨rfl, HK.out.bel⟩
end Go.Proofs.YtofngihdnjgmeaaGreat

namespace Go.Proofs.YtofngihdnjgmeaaGreat
set_option maxRecDepth 100000
open Go.ChangeShapes Go.WideShapes Go.ChangeAt Go.RowKit

theorem KeepH.re {w u u' : World} {v v' : Value} {hs hs' : List Ho} {l : List (Nat × TypeId × List Int)} (h : KeepH w l v hs u) (ho : Own u' w.heap.size v' hs') (hb : Below w.heap.size u u') : KeepH w [] v' hs' u' :=
  ⟨⟨h.keep.bel.trans hb, by simp, by simp⟩, ho, by simp⟩
theorem cnt_eq (n : Int) (r : Bool) (hr : cntBH n = r) (w : World) : Calls Tryz.prog 105 #[.int .i64 n] w fun e w' => e = .returned (.bool r) ∧ w = w' := by subst hr; exact cnt_anyH n w
theorem rep_eq (n : Int) (r : Bool) (hr : repBH n = r) (w : World) : Calls Tryz.prog 104 #[.int .i64 n] w fun e w' => e = .returned (.bool r) ∧ w = w' := by subst hr; exact rep_anyH n w
theorem gr_eq (A : Option Addr) (n c : Nat) (hs : List Ho) (k g : Int) (hg : gr hs k = g) (w : World) (hd : Row w A n hs) :
    Calls Tryz.prog 107 #[.slice A n c, .int .i64 k] w fun e w' => e = .returned (.int .i64 g) ∧ Below w.heap.size w w' := by subst hg; exact gr_any A n c hs k w hd
theorem add_yes (g : Int) (h : okB g 1 (g + 1) = true) (w : World) : Calls Tryz.prog 106 #[.int .i64 g, .int .i64 1] w fun e w' => e = .returned (.tuple #[.int .i64 (g + 1), .int .i64 0]) ∧ w = w' := by
  have := add_any g 1 w
  rwa [(addE_ok h).1, (addE_ok h).2] at this
theorem add_no (g : Int) (h : okB g 1 (g + 1) = false) (w : World) : Calls Tryz.prog 106 #[.int .i64 g, .int .i64 1] w fun e w' => e = .returned (.tuple #[.int .i64 0, .int .i64 2]) ∧ w = w' := by
  have := add_any g 1 w
  rwa [(addE_no h).1, (addE_no h).2] at this
theorem res_bad {l : List Ho} {k a d : Int} (h : (rightsL l && rightH (newH l k a d)) = false) : resE l k a d = 1 ∧ resN l k a d = 0 ∧ resL l k a d = [] := by
  have e : resE l k a d = 1 := by rw [resE, h]; rfl
  exact ⟨e, by rw [resN, e]; rfl, by rw [resL, e]; rfl⟩
theorem res_full {l : List Ho} {k a d : Int} (h : (rightsL l && rightH (newH l k a d)) = true) (hn : l.length = 16) : resE l k a d = 7 ∧ resN l k a d = 0 ∧ resL l k a d = [] := by
  have e : resE l k a d = 7 := by rw [resE, h, if_pos rfl, if_pos hn]
  exact ⟨e, by rw [resN, e]; rfl, by rw [resL, e]; rfl⟩
theorem res_good {l : List Ho} {k a d : Int} (h : (rightsL l && rightH (newH l k a d)) = true) (hn : l.length ≠ 16) : resE l k a d = 0 ∧ resN l k a d = gr l k + 1 ∧ resL l k a d = insH l (newH l k a d) := by
  have e : resE l k a d = 0 := by rw [resE, h, if_pos rfl, if_neg hn]
  exact ⟨e, by rw [resN, e]; rfl, by rw [resL, e]; rfl⟩
set_option maxHeartbeats 2000000 in
theorem reserve_any (A : Option Addr) (n c : Nat) (hs : List Ho) (k a d : Int) (w : World) (hd : Row w A n hs) :
    Calls Tryz.prog 57 #[.slice A n c, .int .i64 k, .int .i64 a, .int .i64 d] w fun e w' => ∃ v, e = .returned (.tuple #[v, .int .i64 (resN hs k a d), .int .i64 (resE hs k a d)]) ∧ Own w' w.heap.size v (resL hs k a d) ∧ Below w.heap.size w w' := by
  have HD := Lib.hid hd; have HL := Lib.hid hd.1; have HNB := Lib.hid hd.2.1; clear hd
  have HK := Lib.hid (KeepR.start w)
  cases hrt : rightsL hs with
  | false =>
    have HRT := Lib.hid hrt
    obtain ⟨e1, e2, e3⟩ := res_bad (l := hs) (k := k) (a := a) (d := d) (by rw [hrt, Bool.false_and])
    rw [e1, e2, e3]
    clear e1 e2 e3
    go_enter Tryz.func57, Tryz.ntmps57
    go_wp2_with (first
      | (go_at_call 94; (with_reducible refine (rights_eq _ _ _ _ _ HRT.out _ (HD.out.below HK.out.bel (Nat.le_refl _))).mono ?_); rintro e u ⟨rfl, hb⟩; have hk := HK.out.call hb; clear hb; clear HK; have HK := Lib.hid hk; clear hk))
    go_ret3
    exact ⟨_, rfl, Own.nil _ _, HK.out.bel⟩
  | true =>
    have hnew := right_new hrt k a d
    have hle := (rights_iff.1 hrt).1
    have hris := (rights_iff.1 hrt).2.2
    have hgb : 0 ≤ gr hs k ∧ gr hs k ≤ 1099511627776 := grTo_range (rights_iff.1 hrt).2.1 k _ (Nat.le_refl _)
    have HRT := Lib.hid hrt
    cases hrp : repBH k with
    | false =>
      have HRP := Lib.hid hrp
      obtain ⟨e1, e2, e3⟩ := res_bad (l := hs) (k := k) (a := a) (d := d) (by rw [hnew, hrp, Bool.false_and, Bool.and_false])
      rw [e1, e2, e3]
      clear e1 e2 e3
      go_enter Tryz.func57, Tryz.ntmps57
      go_wp2_with (first
        | (go_at_call 94; (with_reducible refine (rights_eq _ _ _ _ _ HRT.out _ (HD.out.below HK.out.bel (Nat.le_refl _))).mono ?_); rintro e u ⟨rfl, hb⟩; have hk := HK.out.call hb; clear hb; clear HK; have HK := Lib.hid hk; clear hk)
        | (go_at_call 104; (with_reducible refine (rep_eq _ _ HRP.out _).mono ?_); rintro e u ⟨rfl, rfl⟩))
      go_ret3
      exact ⟨_, rfl, Own.nil _ _, HK.out.bel⟩
    | true =>
      have HRP := Lib.hid hrp
      cases hca : cntBH a with
      | false =>
        have HCA := Lib.hid hca
        obtain ⟨e1, e2, e3⟩ := res_bad (l := hs) (k := k) (a := a) (d := d) (by rw [hnew, hca, Bool.false_and, Bool.and_false, Bool.and_false])
        rw [e1, e2, e3]
        clear e1 e2 e3
        go_enter Tryz.func57, Tryz.ntmps57
        go_wp2_with (first
          | (go_at_call 94; (with_reducible refine (rights_eq _ _ _ _ _ HRT.out _ (HD.out.below HK.out.bel (Nat.le_refl _))).mono ?_); rintro e u ⟨rfl, hb⟩; have hk := HK.out.call hb; clear hb; clear HK; have HK := Lib.hid hk; clear hk)
          | (go_at_call 104; (with_reducible refine (rep_eq _ _ HRP.out _).mono ?_); rintro e u ⟨rfl, rfl⟩)
          | (go_at_call 105; (with_reducible refine (cnt_eq a _ HCA.out _).mono ?_); rintro e u ⟨rfl, rfl⟩))
        go_ret3
        exact ⟨_, rfl, Own.nil _ _, HK.out.bel⟩
      | true =>
        have HCA := Lib.hid hca
        cases hcd : cntBH d with
        | false =>
          have HCD := Lib.hid hcd
          obtain ⟨e1, e2, e3⟩ := res_bad (l := hs) (k := k) (a := a) (d := d) (by rw [hnew, hcd, Bool.false_and, Bool.and_false, Bool.and_false, Bool.and_false])
          rw [e1, e2, e3]
          clear e1 e2 e3
          go_enter Tryz.func57, Tryz.ntmps57
          go_wp2_with (first
            | (go_at_call 94; (with_reducible refine (rights_eq _ _ _ _ _ HRT.out _ (HD.out.below HK.out.bel (Nat.le_refl _))).mono ?_); rintro e u ⟨rfl, hb⟩; have hk := HK.out.call hb; clear hb; clear HK; have HK := Lib.hid hk; clear hk)
            | (go_at_call 104; (with_reducible refine (rep_eq _ _ HRP.out _).mono ?_); rintro e u ⟨rfl, rfl⟩)
            | (go_at_call 105; (with_reducible refine (cnt_eq a _ HCA.out _).mono ?_); rintro e u ⟨rfl, rfl⟩)
            | (go_at_call 105; (with_reducible refine (cnt_eq d _ HCD.out _).mono ?_); rintro e u ⟨rfl, rfl⟩))
          go_ret3
          exact ⟨_, rfl, Own.nil _ _, HK.out.bel⟩
        | true =>
          have HCD := Lib.hid hcd
          rw [hrp, hca, hcd, Bool.true_and, Bool.true_and, Bool.true_and] at hnew
          cases hgi : isB (gr hs k + 1) with
          | false =>
            rw [hgi] at hnew
            obtain ⟨e1, e2, e3⟩ := res_bad (l := hs) (k := k) (a := a) (d := d) (by rw [hnew, Bool.and_false])
            rw [e1, e2, e3]
            generalize hg : gr hs k = g at hgi
            have HG := Lib.hid hg
            have HOK := Lib.hid (show okB g 1 (g + 1) = false from okB_r hgi)
            clear e1 e2 e3 hg hgi hnew hris hgb
            go_enter Tryz.func57, Tryz.ntmps57
            go_wp2_with (first
              | (go_at_call 94; (with_reducible refine (rights_eq _ _ _ _ _ HRT.out _ (HD.out.below HK.out.bel (Nat.le_refl _))).mono ?_); rintro e u ⟨rfl, hb⟩; have hk := HK.out.call hb; clear hb; clear HK; have HK := Lib.hid hk; clear hk)
              | (go_at_call 104; (with_reducible refine (rep_eq _ _ HRP.out _).mono ?_); rintro e u ⟨rfl, rfl⟩)
              | (go_at_call 105; (with_reducible refine (cnt_eq a _ HCA.out _).mono ?_); rintro e u ⟨rfl, rfl⟩)
              | (go_at_call 105; (with_reducible refine (cnt_eq d _ HCD.out _).mono ?_); rintro e u ⟨rfl, rfl⟩)
              | (go_at_call 107; (with_reducible refine (gr_eq _ _ _ _ _ _ HG.out _ (HD.out.below HK.out.bel (Nat.le_refl _))).mono ?_); rintro e u ⟨rfl, hb⟩; have hk := HK.out.call hb; clear hb; clear HK; have HK := Lib.hid hk; clear hk)
              | (go_at_call 106; (with_reducible refine (add_no _ HOK.out _).mono ?_); rintro e u ⟨rfl, rfl⟩))
            go_ret3
            exact ⟨_, rfl, Own.nil _ _, HK.out.bel⟩
          | true =>
            rw [hgi] at hnew
            have hall : (rightsL hs && rightH (newH hs k a d)) = true := by rw [hrt, hnew]; rfl
            have HOK0 := Lib.hid (show okB (gr hs k) 1 (gr hs k + 1) = true from okB_iff.2 ⟨isB_iff.2 (by omega), by decide, hgi⟩)
            by_cases h16 : hs.length = 16
            · obtain ⟨e1, e2, e3⟩ := res_full hall h16
              rw [e1, e2, e3]
              generalize hg : gr hs k = g at HOK0
              have HG := Lib.hid hg; have HOK := HOK0
              have hn : (n : Int) = 16 := by have := HL.out; omega
              clear e1 e2 e3 hg hgi hnew hris hgb hall h16
              go_enter Tryz.func57, Tryz.ntmps57
              go_wp2_with (first
                | (go_at_call 94; (with_reducible refine (rights_eq _ _ _ _ _ HRT.out _ (HD.out.below HK.out.bel (Nat.le_refl _))).mono ?_); rintro e u ⟨rfl, hb⟩; have hk := HK.out.call hb; clear hb; clear HK; have HK := Lib.hid hk; clear hk)
                | (go_at_call 104; (with_reducible refine (rep_eq _ _ HRP.out _).mono ?_); rintro e u ⟨rfl, rfl⟩)
                | (go_at_call 105; (with_reducible refine (cnt_eq a _ HCA.out _).mono ?_); rintro e u ⟨rfl, rfl⟩)
                | (go_at_call 105; (with_reducible refine (cnt_eq d _ HCD.out _).mono ?_); rintro e u ⟨rfl, rfl⟩)
                | (go_at_call 107; (with_reducible refine (gr_eq _ _ _ _ _ _ HG.out _ (HD.out.below HK.out.bel (Nat.le_refl _))).mono ?_); rintro e u ⟨rfl, hb⟩; have hk := HK.out.call hb; clear hb; clear HK; have HK := Lib.hid hk; clear hk)
                | (go_at_call 106; (with_reducible refine (add_yes _ HOK.out _).mono ?_); rintro e u ⟨rfl, rfl⟩))
              go_ret3
              exact ⟨_, rfl, Own.nil _ _, HK.out.bel⟩
            · obtain ⟨e1, e2, e3⟩ := res_good hall h16
              obtain ⟨hap, hins⟩ := isort_new hris (new_apart (l := hs) (k := k) (a := a) (d := d))
              rw [e1, e2, e3, ← hins]
              unfold newH at hap ⊢
              generalize hg : gr hs k = g at HOK0 hap
              have HG := Lib.hid hg; have HOK := HOK0
              have HAP := Lib.hid hap
              have hn : ¬ (n : Int) = 16 := by have := HL.out; omega
              have hn2 : ((n : Int) == 16) = false := by simp; omega
              have HLE := Lib.hid hle
              clear e1 e2 e3 hg hgi hnew hris hgb hall h16 hins hap hle
              go_enter Tryz.func57, Tryz.ntmps57
              go_wp2_with (first
                | (go_at_call 94; (with_reducible refine (rights_eq _ _ _ _ _ HRT.out _ (HD.out.below HK.out.bel (Nat.le_refl _))).mono ?_); rintro e u ⟨rfl, hb⟩; have hk := HK.out.call hb; clear hb; clear HK; have HK := Lib.hid hk; clear hk)
                | (go_at_call 104; (with_reducible refine (rep_eq _ _ HRP.out _).mono ?_); rintro e u ⟨rfl, rfl⟩)
                | (go_at_call 105; (with_reducible refine (cnt_eq a _ HCA.out _).mono ?_); rintro e u ⟨rfl, rfl⟩)
                | (go_at_call 105; (with_reducible refine (cnt_eq d _ HCD.out _).mono ?_); rintro e u ⟨rfl, rfl⟩)
                | (go_at_call 107; (with_reducible refine (gr_eq _ _ _ _ _ _ HG.out _ (HD.out.below HK.out.bel (Nat.le_refl _))).mono ?_); rintro e u ⟨rfl, hb⟩; have hk := HK.out.call hb; clear hb; clear HK; have HK := Lib.hid hk; clear hk)
                | (go_at_call 106; (with_reducible refine (add_yes _ HOK.out _).mono ?_); rintro e u ⟨rfl, rfl⟩)
                | (go_at_call 46; (with_reducible refine (clone_any _ _ _ _ _ (HD.out.below HK.out.bel (Nat.le_refl _))).mono ?_); rintro e u ⟨v1, rfl, ho, hb⟩; have hk := (KeepH.of_keep HK.out).other hb ho; clear ho hb; clear HK; have HK := Lib.hid hk; clear hk)
                | (with_reducible refine build_five rfl _ _ _ _ _ rfl rfl rfl rfl rfl rfl ?_)
                | (with_reducible refine build_one (h := ⟨k, g + 1, a, d, 1⟩) HK.out rfl _ rfl rfl ?_; intro b1 u hk hb; clear hb; clear HK; have HK := Lib.hid hk; clear hk)
                | (refine app_hos HK.out rfl _ _ rfl rfl _ _ _ _ rfl HK.out.one (by have := HLE.out; omega) ?_; intro v2 u hk0; have hk := hk0.tail; clear hk0; clear HK; have HK := Lib.hid hk; clear hk)
                | (go_at_call 96; (refine (sort_any _ w.heap.size _ _ HK.out.own HK.out.keep.bel.size (by have := HLE.out; simp; omega) HAP.out).mono ?_); rintro e u ⟨rfl, ho, hb⟩; have hk := HK.out.re ho hb; clear ho hb; clear HK; have HK := Lib.hid hk; clear hk))
              go_ret3
              exact ⟨_, rfl, HK.out.own, HK.out.keep.bel⟩
end Go.Proofs.YtofngihdnjgmeaaGreat

namespace Go.Proofs.YtofngihdnjgmeaaGreat
set_option maxRecDepth 100000
open Go.ChangeShapes Go.WideShapes Go.ChangeAt Go.RowKit

/-- A field, with its holds. -/
structure Pf where
  nm : ByteArray
  k : Int
  e : Int
  C : List Int
  L : Lk
  hs : List Ho
/-- The same, its holds in memory. -/
def Pf.fd (p : Pf) (A : Option Addr) (c : Nat) : Fd := ⟨p.nm, p.k, p.e, p.C, p.L, A, p.hs.length, c⟩
def Pf.full (p : Pf) : Prop := p.C.length = 579
def zP : Pf := ⟨ByteArray.empty, 0, 0, zer 579, zL, []⟩
theorem zP_full : zP.full := zer_length 579
def Pf.setC (p : Pf) (D : List Int) : Pf := ⟨p.nm, p.k, p.e, D, p.L, p.hs⟩
def Pf.setH (p : Pf) (hs : List Ho) : Pf := ⟨p.nm, p.k, p.e, p.C, p.L, hs⟩
section
variable {p : Pf} {A : Option Addr} {c : Nat}
theorem Pf.toC (h : p.full) {D : List Int} (hD : D.length = 579) : spl (p.fd A c).cells 3 (vals D) = ((p.setC D).fd A c).cells := Fd.setC (f := p.fd A c) h hD
theorem Pf.toH (h : p.full) (B : Option Addr) (d : Nat) (hs : List Ho) : (p.fd A c).cells.set 586 (.slice B hs.length d) = ((p.setH hs).fd B d).cells := Fd.setH (f := p.fd A c) h B hs.length d
theorem Pf.ck : (p.fd A c).cells[1]? = some (.int .i64 p.k) := rfl
theorem Pf.cn : (p.fd A c).cells[0]? = some (.string p.nm) := rfl
theorem Pf.ce : (p.fd A c).cells[2]? = some (.int .i64 p.e) := rfl
theorem Pf.cC : ∀ j v, (vals p.C)[j]? = some v → (p.fd A c).cells[3 + j]? = some v := Fd.cC (p.fd A c)
theorem Pf.cL (h : p.full) : ∀ j v, (vals p.L.l)[j]? = some v → (p.fd A c).cells[582 + j]? = some v := Fd.cL (f := p.fd A c) h
theorem Pf.cH (h : p.full) : (p.fd A c).cells[586]? = some (.slice A p.hs.length c) := Fd.cH (f := p.fd A c) h
theorem Pf.all : ∀ j v, (p.fd A c).cells[j]? = some v → (p.fd A c).cells[0 + j]? = some v := Fd.all _
theorem Pf.len (h : p.full) : (p.fd A c).cells.length = 587 := Fd.len (f := p.fd A c) h
theorem Pf.infoC (h : p.full) : (Tryz.prog.info? 28).map (·.size) = some (vals p.C).length := c_infoF (f := p.fd none 0) h
theorem Pf.infoF (h : p.full) : (Tryz.prog.info? 33).map (·.size) = some (p.fd A c).cells.length := f_infoF (f := p.fd A c) h
theorem infoC {D : List Int} (h : D.length = 579) : (Tryz.prog.info? 28).map (·.size) = some (vals D).length := by rw [vals_length, h]; exact c_info
end

/-! ### What comes of each call. -/
def looseP (p : Pf) (k : Int) : Int := if p.k = 1 then freeN (dnR p.C) k - sumOf p.hs k else 0
def toldP (p : Pf) (e : Int) : Pf := if e = 0 then p else zP
theorem toldP_full {p : Pf} (h : p.full) (e : Int) : (toldP p e).full := by unfold toldP; split; exact h; exact zP_full
theorem toldP_0 (p : Pf) : toldP p 0 = p := rfl
theorem toldP_n (p : Pf) {e : Int} (h : e ≠ 0) : toldP p e = zP := if_neg h
def resPE (p : Pf) (k a d : Int) : Int := if p.k = 1 then (if looseP p k < a then 8 else resE p.hs k a d) else 17
def resPN (p : Pf) (k a d : Int) : Int := if p.k = 1 then (if looseP p k < a then 0 else resN p.hs k a d) else 0
def resPH (p : Pf) (k a d : Int) : List Ho := if looseP p k < a then p.hs else resL p.hs k a d
def resP (p : Pf) (k a d : Int) : Pf := toldP (p.setH (resPH p k a d)) (resPE p k a d)
def ctPE (s : ByteArray) (i l h : Int) : Int := if nameB s then newE i l h else 1
def ctP (s : ByteArray) (i l h : Int) : Pf := toldP ⟨s, 1, 0, newA i l h, zL, []⟩ (ctPE s i l h)
theorem resP_full {p : Pf} (h : p.full) (k a d : Int) : (resP p k a d).full := toldP_full (p := p.setH (resPH p k a d)) h _
/-! ### Holds that calls tell. -/
/-- A slice that a call told: it reads so, and lies where nothing lay, or is the one that was handed in. -/
structure Got (w : World) (A0 : Option Addr) (n0 : Nat) (u : World) (A : Option Addr) (c : Nat) (hs : List Ho) : Prop where
  row : Row u A hs.length hs
  cap : hs.length ≤ c
  new : ∀ a, A = some a → 0 < hs.length → w.heap.size ≤ a.block ∨ (A = A0 ∧ hs.length = n0)
theorem Own.cap {w : World} {base : Nat} {A : Option Addr} {n c : Nat} {hs : List Ho} (h : Own w base (.slice A n c) hs) : n ≤ c := by
  rcases h.2 with ⟨e, _⟩ | ⟨g, cap, cur, e, _, _, hn, _⟩
  · injection e with e1 e2 e3; omega
  · injection e with e1 e2 e3; omega
/-- It lies where nothing lay. -/
structure Fresh (B : Nat) (A : Option Addr) (c : Nat) (hs : List Ho) : Prop where
  cap : hs.length ≤ c
  new : ∀ a, A = some a → 0 < hs.length → B ≤ a.block
theorem Fresh.mono {B B' : Nat} {A : Option Addr} {c : Nat} {hs : List Ho} (h : Fresh B A c hs) (hB : B' ≤ B) : Fresh B' A c hs := ⟨h.cap, fun a ha h0 => Nat.le_trans hB (h.new a ha h0)⟩
theorem Fresh.own {u : World} {B : Nat} {A : Option Addr} {n c : Nat} {hs : List Ho} (h : Own u B (.slice A n c) hs) : Fresh B A c hs := by
  obtain ⟨A', c', e⟩ := h.slice
  injection e with e1 e2 e3
  subst e2
  refine ⟨h.cap, fun a ha _ => ?_⟩
  subst ha
  exact own_baseH h _ rfl
theorem Fresh.nil (B : Nat) (A : Option Addr) (c : Nat) : Fresh B A c [] := ⟨Nat.zero_le _, fun _ _ h => absurd h (by simp)⟩
theorem Got.of {w u : World} {A0 : Option Addr} {n0 : Nat} {A : Option Addr} {c : Nat} {hs : List Ho} (h : Row u A hs.length hs) (f : Fresh w.heap.size A c hs) : Got w A0 n0 u A c hs := ⟨h, f.cap, fun a ha h0 => .inl (f.new a ha h0)⟩
theorem Got.own {w u : World} {A0 : Option Addr} {n0 : Nat} {A : Option Addr} {n c : Nat} {hs : List Ho} (h : Own u w.heap.size (.slice A n c) hs) (hn : hs.length ≤ 1000) : Got w A0 n0 u A c hs := by
  obtain ⟨A', c', e⟩ := h.slice
  injection e with e1 e2 e3
  subst e2
  refine ⟨h.row hn, h.cap, fun a ha h0 => .inl ?_⟩
  subst ha
  exact own_baseH h _ rfl
theorem Got.same {w u : World} {A : Option Addr} {c : Nat} {hs : List Ho} (h : Row u A hs.length hs) (hc : hs.length ≤ c) : Got w A hs.length u A c hs := ⟨h, hc, fun _ _ _ => .inr ⟨rfl, rfl⟩⟩
theorem Got.nil (w u : World) (A0 : Option Addr) (n0 : Nat) (A : Option Addr) (c : Nat) : Got w A0 n0 u A c [] := ⟨Row.nil u A, Nat.zero_le _, fun _ _ h => absurd h (by simp)⟩
theorem Got.base {w w' u : World} {A0 : Option Addr} {n0 : Nat} {A : Option Addr} {c : Nat} {hs : List Ho} (h : Got w A0 n0 u A c hs) (hb : w'.heap.size ≤ w.heap.size) : Got w' A0 n0 u A c hs :=
  ⟨h.row, h.cap, fun a ha h0 => (h.new a ha h0).imp (fun h => Nat.le_trans hb h) id⟩
theorem Got.call {w u u' : World} {A0 : Option Addr} {n0 : Nat} {A : Option Addr} {c : Nat} {hs : List Ho} (h : Got w A0 n0 u A c hs) (hb : Below u.heap.size u u') : Got w A0 n0 u' A c hs := ⟨h.row.call hb, h.cap, h.new⟩
end Go.Proofs.YtofngihdnjgmeaaGreat

namespace Go.Proofs.YtofngihdnjgmeaaGreat
set_option maxRecDepth 100000
open Go.ChangeShapes Go.WideShapes Go.ChangeAt Go.RowKit

/-! ### Locks. -/
theorem Lk.f1 (a : Lk) : (vals a.l)[1]? = some (.int .i64 a.v) := rfl
theorem Lk.f2 (a : Lk) : (vals a.l)[2]? = some (.int .i64 a.h) := rfl
theorem Lk.f3 (a : Lk) : (vals a.l)[3]? = some (.int .i64 a.x) := rfl
/-! ### Fields. -/
theorem Pf.fullH {p : Pf} (h : p.full) (R : List Ho) : (p.setH R).full := h
theorem infoCl {D : List Int} (_h : D.length = 579) : ∀ j v, (vals D)[j]? = some v → (vals D)[0 + j]? = some v := fun j v h => by rw [Nat.zero_add]; exact h
theorem c_zeroF : (Tryz.prog.info? 28).bind (·.zero) = some (.agg (vals (zer 579)).toArray) := c_zero
theorem putC {C D : List Int} (h : C.length = D.length) : spl (vals C) 0 (vals D) = vals D := by
  have := spl_mid (vals D) (vals C) [] [] (by rw [vals_length, vals_length, h])
  simpa using this
theorem putC_le {C D : List Int} (hC : C.length = 579) (hD : D.length = 579) : 0 + (vals D).length ≤ (vals C).length := by rw [vals_length, vals_length, hC, hD]; decide
end Go.Proofs.YtofngihdnjgmeaaGreat
