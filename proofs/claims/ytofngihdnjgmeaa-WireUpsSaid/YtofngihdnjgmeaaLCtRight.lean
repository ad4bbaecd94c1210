/- Contracts of counter.covers and Right, and of the document's Right. -/
import Derived.Test.YtofngihdnjgmeaaLCtNew
namespace Go.Proofs.Ytofngihdnjgmeaa
set_option maxRecDepth 100000
open Go.ChangeShapes Go.WideShapes Go.ChangeAt Go.RowKit

theorem set_pair (f : Nat → Value) (v v' : Value) : ((Array.map f (Array.range 2)).setIfInBounds 0 v).setIfInBounds 1 v' = #[v, v'] := by
  apply Array.ext
  · simp
  · intro i h1 h2
    have : i = 0 ∨ i = 1 := by simp at h2; omega
    rcases this with rfl | rfl <;> simp
theorem run_pair (y z : Int) (u : World) : (Instr.buildSlice 97 2 #[(0, .int .i64 y), (1, .int .i64 z)]).run Try.prog u = .ok (.slice (some ⟨u.heap.size, 0, none⟩) 2 2) (u.alloc (.cells (vals [y, z]).toArray 3)) := by
  obtain ⟨i0, hi0, hz0, hz1, hz2⟩ := info_parts int_info
  simp [Instr.buildSlice, run_underlying Try.underlying97, sizeOf, typeInfo, zeroValue, hi0, hz0, hz1, Instr.fill, Value.cells, newRow, newObj, vals, set_pair]
  rfl
theorem build2 {ops : Array Oper} {rest : List Oper} {o : Oper} {a : Act} {w u : World} {l : List (Nat × TypeId × List Int)} {Q : Exit → Act → World → Prop} (hk : KeepR w l u) (hgd : o.guard = none) (x x' : Operand) (ho : o.op = .buildSlice 97 2 #[(0, x), (1, x')]) {y z : Int} (hx : a.eval x = .int .i64 y) (hx' : a.eval x' = .int .i64 z)
    (h : ∀ b u', KeepR w ((b, 3, [y, z]) :: l) u' → wpList Try.prog ops Q rest (a.put o.dst (.slice (some ⟨b, 0, none⟩) 2 2)) u') : wpList Try.prog ops Q (o :: rest) a u :=
  wpList_plain hgd fun _ hK => by
    unfold Oper.wp execOp
    simp only [ho, List.map_toArray, List.map_cons, List.map_nil, hx, hx', Sem.run_bind, Sem.run_pure, Result.andThen_ok, run_pair]
    exact hK _ _ (h _ _ (hk.new rfl))

set_option maxRecDepth 100000 in
set_option maxHeartbeats 1000000 in
theorem cov_any (G U : List Int) (hG : G.length = 16) (hU : U.length = 16) (h l : Int) (w : World) :
    Calls Try.prog 74 #[.agg (vals G).toArray, .int .i64 h, .int .i64 l, .agg (vals U).toArray] w fun e w' => e = .returned (.bool (covB G h l U)) ∧ Below w.heap.size w w' := by
  have HG := Lib.hid hG; clear hG
  have HU := Lib.hid hU; clear hU
  have HK := Lib.hid (KeepR.start w)
  have hs1 := fun b W (hr : Reads W (some ⟨b, 0, none⟩) 16 G) => sum_any (some ⟨b, 0, none⟩) 16 16 G W hr
  have hs2 := fun A c W (hr : Reads W A (2 + 16) (h :: ng l :: U)) => sum_any A (2 + 16) c (h :: ng l :: U) W hr
  have hcv : covB G h l U = ((sumE G == 0) && (sumE (h :: ng l :: U) == 0) && (sumN G == sumN (h :: ng l :: U))) := rfl
  rw [hcv]; clear hcv
  have hng : ∀ y : Int, wrap64 (-y) = ng y := fun y => rfl
  generalize sumE G = e1 at hs1 ⊢
  generalize sumN G = n1 at hs1 ⊢
  generalize sumE (h :: ng l :: U) = e2 at hs2 ⊢
  generalize sumN (h :: ng l :: U) = n2 at hs2 ⊢
  cases k0 : (e1 == 0) with
  | false =>
    simp only [Bool.false_and]
    go_enter Try.func74, Try.ntmps74
    go_wp2_with (first
      | (with_reducible refine box_new (R := G) HK.out rfl _ rfl rfl ?_; intro bg u hk hb; clear hb; clear HK; have HK := Lib.hid hk; clear hk)
      | (with_reducible refine box_new (R := U) HK.out rfl _ rfl rfl ?_; intro bu u hk hb; clear hb; clear HK; have HK := Lib.hid hk; clear hk)
      | (go_at_call 78; (with_reducible refine (hs1 _ _ ((HK.out.get 1 rfl).readsAll HG.out (by omega))).mono ?_); rintro e u ⟨rfl, hb⟩; have hk := HK.out.call hb; clear hb; clear HK; have HK := Lib.hid hk; clear hk)
      | (with_reducible refine build2 HK.out rfl _ _ rfl rfl rfl ?_; intro b u hk; have ho := (hk.get 0 rfl).own (hk.blk _ (List.mem_cons_self ..)).1 (n := 2) rfl (by omega); have HO := Lib.hid ho; clear ho; have hk1 := hk.tail; clear hk; have hk := hk1; clear hk1; clear HK; have HK := Lib.hid hk; clear hk)
      | (refine wpList_append_ints rfl _ _ rfl w.heap.size _ 2 [h, ng l] rfl HO.out _ 16 16 U rfl ((HK.out.get 0 rfl).readsAll HU.out (by omega)) (by omega) HK.out.bel.size ?_; intro v' u ho hg hv; have hk := HK.out.grown HO.out (by simp) hg; clear HO hg hv; simp only [List.cons_append, List.nil_append] at ho; obtain ⟨A, c, rfl⟩ := own_slice ho; have HV := Lib.hid (own_reads ho (by omega)).1; clear ho; clear HK; have HK := Lib.hid hk; clear hk)
      | (go_at_call 78; (with_reducible refine (hs2 _ _ _ HV.out).mono ?_); rintro e u ⟨rfl, hb⟩; have hk := HK.out.call hb; clear hb; clear HK; have HK := Lib.hid hk; clear hk))
    go_ret
    first
      | exact ⟨rfl, HK.out.bel⟩
      | exact ⟨by simp only [k0], HK.out.bel⟩
      | exact ⟨by simp [k0], HK.out.bel⟩
  | true =>
    cases k1 : (e2 == 0) with
    | false =>
      simp only [Bool.and_false, Bool.false_and]
      go_enter Try.func74, Try.ntmps74
      go_wp2_with (first
        | (with_reducible refine box_new (R := G) HK.out rfl _ rfl rfl ?_; intro bg u hk hb; clear hb; clear HK; have HK := Lib.hid hk; clear hk)
        | (with_reducible refine box_new (R := U) HK.out rfl _ rfl rfl ?_; intro bu u hk hb; clear hb; clear HK; have HK := Lib.hid hk; clear hk)
        | (go_at_call 78; (with_reducible refine (hs1 _ _ ((HK.out.get 1 rfl).readsAll HG.out (by omega))).mono ?_); rintro e u ⟨rfl, hb⟩; have hk := HK.out.call hb; clear hb; clear HK; have HK := Lib.hid hk; clear hk)
        | (with_reducible refine build2 HK.out rfl _ _ rfl rfl rfl ?_; intro b u hk; have ho := (hk.get 0 rfl).own (hk.blk _ (List.mem_cons_self ..)).1 (n := 2) rfl (by omega); have HO := Lib.hid ho; clear ho; have hk1 := hk.tail; clear hk; have hk := hk1; clear hk1; clear HK; have HK := Lib.hid hk; clear hk)
        | (refine wpList_append_ints rfl _ _ rfl w.heap.size _ 2 [h, ng l] rfl HO.out _ 16 16 U rfl ((HK.out.get 0 rfl).readsAll HU.out (by omega)) (by omega) HK.out.bel.size ?_; intro v' u ho hg hv; have hk := HK.out.grown HO.out (by simp) hg; clear HO hg hv; simp only [List.cons_append, List.nil_append] at ho; obtain ⟨A, c, rfl⟩ := own_slice ho; have HV := Lib.hid (own_reads ho (by omega)).1; clear ho; clear HK; have HK := Lib.hid hk; clear hk)
        | (go_at_call 78; (with_reducible refine (hs2 _ _ _ HV.out).mono ?_); rintro e u ⟨rfl, hb⟩; have hk := HK.out.call hb; clear hb; clear HK; have HK := Lib.hid hk; clear hk))
      go_ret
      first
        | exact ⟨rfl, HK.out.bel⟩
        | exact ⟨by simp only [k1], HK.out.bel⟩
        | exact ⟨by simp [k1], HK.out.bel⟩
    | true =>
      cases k2 : (n1 == n2) with
      | false =>
        simp only [Bool.and_true, Bool.and_false]
        go_enter Try.func74, Try.ntmps74
        go_wp2_with (first
          | (with_reducible refine box_new (R := G) HK.out rfl _ rfl rfl ?_; intro bg u hk hb; clear hb; clear HK; have HK := Lib.hid hk; clear hk)
          | (with_reducible refine box_new (R := U) HK.out rfl _ rfl rfl ?_; intro bu u hk hb; clear hb; clear HK; have HK := Lib.hid hk; clear hk)
          | (go_at_call 78; (with_reducible refine (hs1 _ _ ((HK.out.get 1 rfl).readsAll HG.out (by omega))).mono ?_); rintro e u ⟨rfl, hb⟩; have hk := HK.out.call hb; clear hb; clear HK; have HK := Lib.hid hk; clear hk)
          | (with_reducible refine build2 HK.out rfl _ _ rfl rfl rfl ?_; intro b u hk; have ho := (hk.get 0 rfl).own (hk.blk _ (List.mem_cons_self ..)).1 (n := 2) rfl (by omega); have HO := Lib.hid ho; clear ho; have hk1 := hk.tail; clear hk; have hk := hk1; clear hk1; clear HK; have HK := Lib.hid hk; clear hk)
          | (refine wpList_append_ints rfl _ _ rfl w.heap.size _ 2 [h, ng l] rfl HO.out _ 16 16 U rfl ((HK.out.get 0 rfl).readsAll HU.out (by omega)) (by omega) HK.out.bel.size ?_; intro v' u ho hg hv; have hk := HK.out.grown HO.out (by simp) hg; clear HO hg hv; simp only [List.cons_append, List.nil_append] at ho; obtain ⟨A, c, rfl⟩ := own_slice ho; have HV := Lib.hid (own_reads ho (by omega)).1; clear ho; clear HK; have HK := Lib.hid hk; clear hk)
          | (go_at_call 78; (with_reducible refine (hs2 _ _ _ HV.out).mono ?_); rintro e u ⟨rfl, hb⟩; have hk := HK.out.call hb; clear hb; clear HK; have HK := Lib.hid hk; clear hk))
        go_ret
        first
          | exact ⟨rfl, HK.out.bel⟩
          | exact ⟨by simp only [k2], HK.out.bel⟩
          | exact ⟨by simp [k2], HK.out.bel⟩
      | true =>
        simp only [Bool.and_self]
        go_enter Try.func74, Try.ntmps74
        go_wp2_with (first
          | (with_reducible refine box_new (R := G) HK.out rfl _ rfl rfl ?_; intro bg u hk hb; clear hb; clear HK; have HK := Lib.hid hk; clear hk)
          | (with_reducible refine box_new (R := U) HK.out rfl _ rfl rfl ?_; intro bu u hk hb; clear hb; clear HK; have HK := Lib.hid hk; clear hk)
          | (go_at_call 78; (with_reducible refine (hs1 _ _ ((HK.out.get 1 rfl).readsAll HG.out (by omega))).mono ?_); rintro e u ⟨rfl, hb⟩; have hk := HK.out.call hb; clear hb; clear HK; have HK := Lib.hid hk; clear hk)
          | (with_reducible refine build2 HK.out rfl _ _ rfl rfl rfl ?_; intro b u hk; have ho := (hk.get 0 rfl).own (hk.blk _ (List.mem_cons_self ..)).1 (n := 2) rfl (by omega); have HO := Lib.hid ho; clear ho; have hk1 := hk.tail; clear hk; have hk := hk1; clear hk1; clear HK; have HK := Lib.hid hk; clear hk)
          | (refine wpList_append_ints rfl _ _ rfl w.heap.size _ 2 [h, ng l] rfl HO.out _ 16 16 U rfl ((HK.out.get 0 rfl).readsAll HU.out (by omega)) (by omega) HK.out.bel.size ?_; intro v' u ho hg hv; have hk := HK.out.grown HO.out (by simp) hg; clear HO hg hv; simp only [List.cons_append, List.nil_append] at ho; obtain ⟨A, c, rfl⟩ := own_slice ho; have HV := Lib.hid (own_reads ho (by omega)).1; clear ho; clear HK; have HK := Lib.hid hk; clear hk)
          | (go_at_call 78; (with_reducible refine (hs2 _ _ _ HV.out).mono ?_); rintro e u ⟨rfl, hb⟩; have hk := HK.out.call hb; clear hb; clear HK; have HK := Lib.hid hk; clear hk))
        go_ret
        first
          | exact ⟨rfl, HK.out.bel⟩
          | exact ⟨by simp only [k2], HK.out.bel⟩
          | exact ⟨by simp [k2], HK.out.bel⟩

theorem right_prog {C : List Int} : rightC C = (betB (C.getD 0 0) (C.getD 1 0) (C.getD 2 0) && (rightsB (seg C 3 288) && (rightsB (seg C 291 288) && (covB (seg C 3 16) (C.getD 0 0) (C.getD 1 0) (seg C 307 16) && covB (seg C 291 16) (C.getD 2 0) (C.getD 0 0) (seg C 19 16))))) := by
  unfold rightC
  rw [show (isB (C.getD 1 0) && isB (C.getD 2 0) && decide (C.getD 1 0 ≤ C.getD 0 0) && decide (C.getD 0 0 ≤ C.getD 2 0)) = betB (C.getD 0 0) (C.getD 1 0) (C.getD 2 0) from rfl]
  cases hb : betB (C.getD 0 0) (C.getD 1 0) (C.getD 2 0) with
  | false => simp only [Bool.false_and]
  | true =>
    cases hd : rightsB (dnR C) with
    | false => rw [show rightsB (seg C 3 288) = false from hd]; simp only [Bool.false_and, Bool.and_false]
    | true =>
      cases hu : rightsB (upR C) with
      | false => rw [show rightsB (seg C 291 288) = false from hu]; simp only [Bool.false_and, Bool.and_false]
      | true =>
        rw [show rightsB (seg C 3 288) = true from hd, show rightsB (seg C 291 288) = true from hu]
        obtain ⟨b1, b2, b3, b4⟩ := betB_iff.1 hb
        obtain ⟨v1, v2, v3, v4⟩ := c_vecs hd hu
        have b0 : isB (C.getD 0 0) = true := by rw [isB_iff] at b1 b2 ⊢; omega
        rw [cov_tie b0 b1 b3 v1 v4, cov_tie b2 b0 b4 v3 v2]
        simp only [Bool.true_and]
theorem right_ref {C : List Int} : rightC C = ((isB (C.getD 0 0) && (isB (C.getD 1 0) && (isB (C.getD 2 0) && (decide (C.getD 1 0 ≤ C.getD 0 0) && (decide (C.getD 0 0 ≤ C.getD 2 0) && (rightsB (seg C 3 288) && rightsB (seg C 291 288))))))) &&
    (rcovB (seg C 3 16) (C.getD 0 0 - C.getD 1 0) (seg C 307 16) && rcovB (seg C 291 16) (C.getD 2 0 - C.getD 0 0) (seg C 19 16))) := by
  rw [right_prog]
  cases hb : betB (C.getD 0 0) (C.getD 1 0) (C.getD 2 0) with
  | false =>
    cases hx : (isB (C.getD 0 0) && (isB (C.getD 1 0) && (isB (C.getD 2 0) && (decide (C.getD 1 0 ≤ C.getD 0 0) && (decide (C.getD 0 0 ≤ C.getD 2 0) && (rightsB (seg C 3 288) && rightsB (seg C 291 288))))))) with
    | false => simp only [Bool.false_and]
    | true =>
      simp only [Bool.and_eq_true, decide_eq_true_eq] at hx
      rw [betB_iff.2 ⟨hx.2.1, hx.2.2.1, hx.2.2.2.1, hx.2.2.2.2.1⟩] at hb
      cases hb
  | true =>
    obtain ⟨b1, b2, b3, b4⟩ := betB_iff.1 hb
    have b0 : isB (C.getD 0 0) = true := by rw [isB_iff] at b1 b2 ⊢; omega
    rw [b0, b1, b2, decide_eq_true b3, decide_eq_true b4]
    simp only [Bool.true_and]
    cases hd : rightsB (seg C 3 288) with
    | false => simp only [Bool.false_and]
    | true =>
      cases hu : rightsB (seg C 291 288) with
      | false => simp only [Bool.false_and, Bool.and_false]
      | true =>
        obtain ⟨v1, v2, v3, v4⟩ := c_vecs hd hu
        rw [cov_tie b0 b1 b3 v1 v4, cov_tie b2 b0 b4 v3 v2, rcov_tie (by omega) v1 v4, rcov_tie (by omega) v3 v2]
        simp only [Bool.true_and]
set_option maxRecDepth 100000 in
set_option maxHeartbeats 2000000 in
theorem cright_any (C : List Int) (hC : C.length = 579) (w : World) :
    Calls Try.prog 61 #[.agg (vals C).toArray] w fun e w' => e = .returned (.bool (rightC C)) ∧ Below w.heap.size w w' := by
  have HK := Lib.hid (KeepR.start w)
  rw [right_prog]
  have L1 := Lib.hid (seg_length (R := C) (o := 3) (n := 288) (by omega))
  have L2 := Lib.hid (seg_length (R := C) (o := 291) (n := 288) (by omega))
  have V1 := Lib.hid (seg_length (R := C) (o := 3) (n := 16) (by omega))
  have V2 := Lib.hid (seg_length (R := C) (o := 307) (n := 16) (by omega))
  have V3 := Lib.hid (seg_length (R := C) (o := 291) (n := 16) (by omega))
  have V4 := Lib.hid (seg_length (R := C) (o := 19) (n := 16) (by omega))
  obtain ⟨p0, hp0⟩ : ∃ p, C.getD 0 0 = p := ⟨_, rfl⟩
  obtain ⟨p1, hp1⟩ : ∃ p, C.getD 1 0 = p := ⟨_, rfl⟩
  obtain ⟨p2, hp2⟩ : ∃ p, C.getD 2 0 = p := ⟨_, rfl⟩
  have hb := bet_any (C.getD 0 0) (C.getD 1 0) (C.getD 2 0)
  have hr1 := right_r (seg C 3 288) L1.out
  have hr2 := right_r (seg C 291 288) L2.out
  have hc1 := cov_any (seg C 3 16) (seg C 307 16) V1.out V2.out (C.getD 0 0) (C.getD 1 0)
  have hc2 := cov_any (seg C 291 16) (seg C 19 16) V3.out V4.out (C.getD 2 0) (C.getD 0 0)
  rw [hp0, hp1, hp2] at hb
  rw [hp0, hp1] at hc1
  rw [hp0, hp2] at hc2
  rw [hp0, hp1, hp2]
  have P0 := Lib.hid hp0; clear hp0
  have P1 := Lib.hid hp1; clear hp1
  have P2 := Lib.hid hp2; clear hp2
  have HC := Lib.hid hC; clear hC
  generalize betB p0 p1 p2 = x0 at hb ⊢
  generalize rightsB (seg C 3 288) = x1 at hr1 ⊢
  generalize rightsB (seg C 291 288) = x2 at hr2 ⊢
  generalize covB (seg C 3 16) p0 p1 (seg C 307 16) = x3 at hc1 ⊢
  generalize covB (seg C 291 16) p2 p0 (seg C 19 16) = x4 at hc2 ⊢
  cases x0 with
  | false =>
    simp only [Bool.false_and]
    go_enter Try.func61, Try.ntmps61
    go_wp2_with (first
      | (with_reducible refine box_new (R := C) HK.out rfl _ rfl rfl ?_; intro bc u hk hb; clear hb; clear HK; have HK := Lib.hid hk; clear hk)
      | (with_reducible refine load_val HK.out 0 rfl _ rfl rfl rfl P0.out (by have := HC.out; omega) ?_)
      | (with_reducible refine load_val HK.out 0 rfl _ rfl rfl rfl P1.out (by have := HC.out; omega) ?_)
      | (with_reducible refine load_val HK.out 0 rfl _ rfl rfl rfl P2.out (by have := HC.out; omega) ?_)
      | (with_reducible refine load_val_want HK.out 0 _ rfl rfl rfl rfl P0.out (by have := HC.out; omega) ?_)
      | (with_reducible refine load_val_want HK.out 0 _ rfl rfl rfl rfl P1.out (by have := HC.out; omega) ?_)
      | (with_reducible refine load_val_want HK.out 0 _ rfl rfl rfl rfl P2.out (by have := HC.out; omega) ?_)
      | (with_reducible refine load_want HK.out 0 288 Try.underlying26 rfl r_info _ rfl rfl rfl rfl (by have := HC.out; omega) ?_)
      | (with_reducible refine load_want HK.out 0 16 Try.underlying23 rfl vec_info _ rfl rfl rfl rfl (by have := HC.out; omega) ?_)
      | (go_at_call 49; (with_reducible refine (hb _).mono ?_); rintro e u ⟨rfl, rfl⟩)
      | (go_at_call 73; (with_reducible refine (hr1 _).mono ?_); rintro e u ⟨rfl, hb⟩; have hk := HK.out.call hb; clear hb; clear HK; have HK := Lib.hid hk; clear hk)
      | (go_at_call 73; (with_reducible refine (hr2 _).mono ?_); rintro e u ⟨rfl, hb⟩; have hk := HK.out.call hb; clear hb; clear HK; have HK := Lib.hid hk; clear hk)
      | (go_at_call 74; (with_reducible refine (hc1 _).mono ?_); rintro e u ⟨rfl, hb⟩; have hk := HK.out.call hb; clear hb; clear HK; have HK := Lib.hid hk; clear hk)
      | (go_at_call 74; (with_reducible refine (hc2 _).mono ?_); rintro e u ⟨rfl, hb⟩; have hk := HK.out.call hb; clear hb; clear HK; have HK := Lib.hid hk; clear hk))
    go_ret
    exact ⟨rfl, HK.out.bel⟩
  | true =>
    cases x1 with
    | false =>
      simp only [Bool.and_false, Bool.false_and]
      go_enter Try.func61, Try.ntmps61
      go_wp2_with (first
        | (with_reducible refine box_new (R := C) HK.out rfl _ rfl rfl ?_; intro bc u hk hb; clear hb; clear HK; have HK := Lib.hid hk; clear hk)
        | (with_reducible refine load_val HK.out 0 rfl _ rfl rfl rfl P0.out (by have := HC.out; omega) ?_)
        | (with_reducible refine load_val HK.out 0 rfl _ rfl rfl rfl P1.out (by have := HC.out; omega) ?_)
        | (with_reducible refine load_val HK.out 0 rfl _ rfl rfl rfl P2.out (by have := HC.out; omega) ?_)
        | (with_reducible refine load_val_want HK.out 0 _ rfl rfl rfl rfl P0.out (by have := HC.out; omega) ?_)
        | (with_reducible refine load_val_want HK.out 0 _ rfl rfl rfl rfl P1.out (by have := HC.out; omega) ?_)
        | (with_reducible refine load_val_want HK.out 0 _ rfl rfl rfl rfl P2.out (by have := HC.out; omega) ?_)
        | (with_reducible refine load_want HK.out 0 288 Try.underlying26 rfl r_info _ rfl rfl rfl rfl (by have := HC.out; omega) ?_)
        | (with_reducible refine load_want HK.out 0 16 Try.underlying23 rfl vec_info _ rfl rfl rfl rfl (by have := HC.out; omega) ?_)
        | (go_at_call 49; (with_reducible refine (hb _).mono ?_); rintro e u ⟨rfl, rfl⟩)
        | (go_at_call 73; (with_reducible refine (hr1 _).mono ?_); rintro e u ⟨rfl, hb⟩; have hk := HK.out.call hb; clear hb; clear HK; have HK := Lib.hid hk; clear hk)
        | (go_at_call 73; (with_reducible refine (hr2 _).mono ?_); rintro e u ⟨rfl, hb⟩; have hk := HK.out.call hb; clear hb; clear HK; have HK := Lib.hid hk; clear hk)
        | (go_at_call 74; (with_reducible refine (hc1 _).mono ?_); rintro e u ⟨rfl, hb⟩; have hk := HK.out.call hb; clear hb; clear HK; have HK := Lib.hid hk; clear hk)
        | (go_at_call 74; (with_reducible refine (hc2 _).mono ?_); rintro e u ⟨rfl, hb⟩; have hk := HK.out.call hb; clear hb; clear HK; have HK := Lib.hid hk; clear hk))
      go_ret
      exact ⟨rfl, HK.out.bel⟩
    | true =>
      cases x2 with
      | false =>
        simp only [Bool.and_false, Bool.false_and]
        go_enter Try.func61, Try.ntmps61
        go_wp2_with (first
          | (with_reducible refine box_new (R := C) HK.out rfl _ rfl rfl ?_; intro bc u hk hb; clear hb; clear HK; have HK := Lib.hid hk; clear hk)
          | (with_reducible refine load_val HK.out 0 rfl _ rfl rfl rfl P0.out (by have := HC.out; omega) ?_)
          | (with_reducible refine load_val HK.out 0 rfl _ rfl rfl rfl P1.out (by have := HC.out; omega) ?_)
          | (with_reducible refine load_val HK.out 0 rfl _ rfl rfl rfl P2.out (by have := HC.out; omega) ?_)
          | (with_reducible refine load_val_want HK.out 0 _ rfl rfl rfl rfl P0.out (by have := HC.out; omega) ?_)
          | (with_reducible refine load_val_want HK.out 0 _ rfl rfl rfl rfl P1.out (by have := HC.out; omega) ?_)
          | (with_reducible refine load_val_want HK.out 0 _ rfl rfl rfl rfl P2.out (by have := HC.out; omega) ?_)
          | (with_reducible refine load_want HK.out 0 288 Try.underlying26 rfl r_info _ rfl rfl rfl rfl (by have := HC.out; omega) ?_)
          | (with_reducible refine load_want HK.out 0 16 Try.underlying23 rfl vec_info _ rfl rfl rfl rfl (by have := HC.out; omega) ?_)
          | (go_at_call 49; (with_reducible refine (hb _).mono ?_); rintro e u ⟨rfl, rfl⟩)
          | (go_at_call 73; (with_reducible refine (hr1 _).mono ?_); rintro e u ⟨rfl, hb⟩; have hk := HK.out.call hb; clear hb; clear HK; have HK := Lib.hid hk; clear hk)
          | (go_at_call 73; (with_reducible refine (hr2 _).mono ?_); rintro e u ⟨rfl, hb⟩; have hk := HK.out.call hb; clear hb; clear HK; have HK := Lib.hid hk; clear hk)
          | (go_at_call 74; (with_reducible refine (hc1 _).mono ?_); rintro e u ⟨rfl, hb⟩; have hk := HK.out.call hb; clear hb; clear HK; have HK := Lib.hid hk; clear hk)
          | (go_at_call 74; (with_reducible refine (hc2 _).mono ?_); rintro e u ⟨rfl, hb⟩; have hk := HK.out.call hb; clear hb; clear HK; have HK := Lib.hid hk; clear hk))
        go_ret
        exact ⟨rfl, HK.out.bel⟩
      | true =>
        cases x3 with
        | false =>
          simp only [Bool.and_false, Bool.false_and]
          go_enter Try.func61, Try.ntmps61
          go_wp2_with (first
            | (with_reducible refine box_new (R := C) HK.out rfl _ rfl rfl ?_; intro bc u hk hb; clear hb; clear HK; have HK := Lib.hid hk; clear hk)
            | (with_reducible refine load_val HK.out 0 rfl _ rfl rfl rfl P0.out (by have := HC.out; omega) ?_)
            | (with_reducible refine load_val HK.out 0 rfl _ rfl rfl rfl P1.out (by have := HC.out; omega) ?_)
            | (with_reducible refine load_val HK.out 0 rfl _ rfl rfl rfl P2.out (by have := HC.out; omega) ?_)
            | (with_reducible refine load_val_want HK.out 0 _ rfl rfl rfl rfl P0.out (by have := HC.out; omega) ?_)
            | (with_reducible refine load_val_want HK.out 0 _ rfl rfl rfl rfl P1.out (by have := HC.out; omega) ?_)
            | (with_reducible refine load_val_want HK.out 0 _ rfl rfl rfl rfl P2.out (by have := HC.out; omega) ?_)
            | (with_reducible refine load_want HK.out 0 288 Try.underlying26 rfl r_info _ rfl rfl rfl rfl (by have := HC.out; omega) ?_)
            | (with_reducible refine load_want HK.out 0 16 Try.underlying23 rfl vec_info _ rfl rfl rfl rfl (by have := HC.out; omega) ?_)
            | (go_at_call 49; (with_reducible refine (hb _).mono ?_); rintro e u ⟨rfl, rfl⟩)
            | (go_at_call 73; (with_reducible refine (hr1 _).mono ?_); rintro e u ⟨rfl, hb⟩; have hk := HK.out.call hb; clear hb; clear HK; have HK := Lib.hid hk; clear hk)
            | (go_at_call 73; (with_reducible refine (hr2 _).mono ?_); rintro e u ⟨rfl, hb⟩; have hk := HK.out.call hb; clear hb; clear HK; have HK := Lib.hid hk; clear hk)
            | (go_at_call 74; (with_reducible refine (hc1 _).mono ?_); rintro e u ⟨rfl, hb⟩; have hk := HK.out.call hb; clear hb; clear HK; have HK := Lib.hid hk; clear hk)
            | (go_at_call 74; (with_reducible refine (hc2 _).mono ?_); rintro e u ⟨rfl, hb⟩; have hk := HK.out.call hb; clear hb; clear HK; have HK := Lib.hid hk; clear hk))
          go_ret
          exact ⟨rfl, HK.out.bel⟩
        | true =>
          cases x4 with
          | false =>
            simp only [Bool.and_false]
            go_enter Try.func61, Try.ntmps61
            go_wp2_with (first
              | (with_reducible refine box_new (R := C) HK.out rfl _ rfl rfl ?_; intro bc u hk hb; clear hb; clear HK; have HK := Lib.hid hk; clear hk)
              | (with_reducible refine load_val HK.out 0 rfl _ rfl rfl rfl P0.out (by have := HC.out; omega) ?_)
              | (with_reducible refine load_val HK.out 0 rfl _ rfl rfl rfl P1.out (by have := HC.out; omega) ?_)
              | (with_reducible refine load_val HK.out 0 rfl _ rfl rfl rfl P2.out (by have := HC.out; omega) ?_)
              | (with_reducible refine load_val_want HK.out 0 _ rfl rfl rfl rfl P0.out (by have := HC.out; omega) ?_)
              | (with_reducible refine load_val_want HK.out 0 _ rfl rfl rfl rfl P1.out (by have := HC.out; omega) ?_)
              | (with_reducible refine load_val_want HK.out 0 _ rfl rfl rfl rfl P2.out (by have := HC.out; omega) ?_)
              | (with_reducible refine load_want HK.out 0 288 Try.underlying26 rfl r_info _ rfl rfl rfl rfl (by have := HC.out; omega) ?_)
              | (with_reducible refine load_want HK.out 0 16 Try.underlying23 rfl vec_info _ rfl rfl rfl rfl (by have := HC.out; omega) ?_)
              | (go_at_call 49; (with_reducible refine (hb _).mono ?_); rintro e u ⟨rfl, rfl⟩)
              | (go_at_call 73; (with_reducible refine (hr1 _).mono ?_); rintro e u ⟨rfl, hb⟩; have hk := HK.out.call hb; clear hb; clear HK; have HK := Lib.hid hk; clear hk)
              | (go_at_call 73; (with_reducible refine (hr2 _).mono ?_); rintro e u ⟨rfl, hb⟩; have hk := HK.out.call hb; clear hb; clear HK; have HK := Lib.hid hk; clear hk)
              | (go_at_call 74; (with_reducible refine (hc1 _).mono ?_); rintro e u ⟨rfl, hb⟩; have hk := HK.out.call hb; clear hb; clear HK; have HK := Lib.hid hk; clear hk)
              | (go_at_call 74; (with_reducible refine (hc2 _).mono ?_); rintro e u ⟨rfl, hb⟩; have hk := HK.out.call hb; clear hb; clear HK; have HK := Lib.hid hk; clear hk))
            go_ret
            exact ⟨rfl, HK.out.bel⟩
          | true =>
            simp only [Bool.and_self]
            go_enter Try.func61, Try.ntmps61
            go_wp2_with (first
              | (with_reducible refine box_new (R := C) HK.out rfl _ rfl rfl ?_; intro bc u hk hb; clear hb; clear HK; have HK := Lib.hid hk; clear hk)
              | (with_reducible refine load_val HK.out 0 rfl _ rfl rfl rfl P0.out (by have := HC.out; omega) ?_)
              | (with_reducible refine load_val HK.out 0 rfl _ rfl rfl rfl P1.out (by have := HC.out; omega) ?_)
              | (with_reducible refine load_val HK.out 0 rfl _ rfl rfl rfl P2.out (by have := HC.out; omega) ?_)
              | (with_reducible refine load_val_want HK.out 0 _ rfl rfl rfl rfl P0.out (by have := HC.out; omega) ?_)
              | (with_reducible refine load_val_want HK.out 0 _ rfl rfl rfl rfl P1.out (by have := HC.out; omega) ?_)
              | (with_reducible refine load_val_want HK.out 0 _ rfl rfl rfl rfl P2.out (by have := HC.out; omega) ?_)
              | (with_reducible refine load_want HK.out 0 288 Try.underlying26 rfl r_info _ rfl rfl rfl rfl (by have := HC.out; omega) ?_)
              | (with_reducible refine load_want HK.out 0 16 Try.underlying23 rfl vec_info _ rfl rfl rfl rfl (by have := HC.out; omega) ?_)
              | (go_at_call 49; (with_reducible refine (hb _).mono ?_); rintro e u ⟨rfl, rfl⟩)
              | (go_at_call 73; (with_reducible refine (hr1 _).mono ?_); rintro e u ⟨rfl, hb⟩; have hk := HK.out.call hb; clear hb; clear HK; have HK := Lib.hid hk; clear hk)
              | (go_at_call 73; (with_reducible refine (hr2 _).mono ?_); rintro e u ⟨rfl, hb⟩; have hk := HK.out.call hb; clear hb; clear HK; have HK := Lib.hid hk; clear hk)
              | (go_at_call 74; (with_reducible refine (hc1 _).mono ?_); rintro e u ⟨rfl, hb⟩; have hk := HK.out.call hb; clear hb; clear HK; have HK := Lib.hid hk; clear hk)
              | (go_at_call 74; (with_reducible refine (hc2 _).mono ?_); rintro e u ⟨rfl, hb⟩; have hk := HK.out.call hb; clear hb; clear HK; have HK := Lib.hid hk; clear hk))
            go_ret
            exact ⟨rfl, HK.out.bel⟩
end Go.Proofs.Ytofngihdnjgmeaa
