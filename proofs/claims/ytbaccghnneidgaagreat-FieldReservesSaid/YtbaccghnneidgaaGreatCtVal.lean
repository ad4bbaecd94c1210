/- Contracts of counter.Value and of the document's Value. -/
import Derived.Test.YtbaccghnneidgaaGreatCtVal1
namespace Go.Proofs.YtbaccghnneidgaaGreat
set_option maxRecDepth 100000
open Go.ChangeShapes Go.WideShapes Go.ChangeAt Go.RowKit

theorem vtry_some (C : List Int) (hC : C.length = 579) (hD : ∀ z ∈ seg C 19 16, -9223372036854775808 ≤ z ∧ z ≤ 9223372036854775807) (bc : Nat) (w : World) (hB : Blk w bc 28 C) (s : Int) (hs : sumFrom 0 (valL C) = some s) :
    Calls Tryz.prog 83 #[.func (Fn.func 84) #[] #[.pointer (some ⟨bc, 0, none⟩)]] w fun e w' => e = .returned (.tuple #[.int .i64 s, .int .i64 0]) ∧ Below w.heap.size w w' := by
  have hmf : ∀ (fn : Fn) (first cap : Array Value) (w : World), (Instr.makeFunc fn first cap).run Tryz.prog w = .ok (.func fn first cap) w := fun _ _ _ _ => rfl
  have hen := eq_nil
  have HS := Lib.hid hs; clear hs
  have HC := Lib.hid hC; clear hC
  have HD := Lib.hid hD; clear hD
  have hb1 : Below w.heap.size w (w.alloc (.cells #[.int .i64 0] 36)) := (Below.refl _ _).alloc (Nat.le_refl _) _
  have HE := Lib.hid (Blk.new w 36 [0])
  have HB1 := Lib.hid (hB.alloc (.cells #[.int .i64 0] 36)); clear hB
  have HB := Lib.hid hb1; clear hb1
  go_enter_defers Tryz.func83, Tryz.ntmps83
  go_wp2_with ((go_at_call 84; refine (val1_some C HC.out HD.out bc _ HB1.out s HS.out).mono ?_; rintro e u ⟨rfl, hb2⟩; have HE2 := Lib.hid (HE.out.below hb2 HE.out.lt); have hcc : u.cell? ⟨w.heap.size, 0, none⟩ = some (.int .i64 0) := HE2.out.cell (k := 0) (by simp); have hfz := HE2.out.frozen 0; have HB2 := Lib.hid hb2; clear hb2))
  refine leaves_cons (f := 120) (args := #[.pointer (some ⟨w.heap.size, 0, none⟩)]) (by simp) (by simp [go_sem]) ?_
  refine (door_idle ⟨w.heap.size, 0, none⟩ _).mono ?_
  rintro e u' w'' ⟨rfl, rfl, rfl⟩
  have hce := (HE2.out.setCell 0 0).cell (k := 0) (by simp)
  simp at hce
  simp [Leaves, settle, results, Tryz.results83, go_sem, hce]
  exact (HB.out.trans (HB2.out.mono HB.out.size)).setCell (p := ⟨w.heap.size, 0, none⟩) (Nat.le_refl _) _
theorem vtry_none (C : List Int) (hC : C.length = 579) (hD : ∀ z ∈ seg C 19 16, -9223372036854775808 ≤ z ∧ z ≤ 9223372036854775807) (bc : Nat) (w : World) (hB : Blk w bc 28 C) (hs : sumFrom 0 (valL C) = none) :
    Calls Tryz.prog 83 #[.func (Fn.func 84) #[] #[.pointer (some ⟨bc, 0, none⟩)]] w fun e w' => e = .returned (.tuple #[.int .i64 0, .int .i64 2]) ∧ Below w.heap.size w w' := by
  have hmf : ∀ (fn : Fn) (first cap : Array Value) (w : World), (Instr.makeFunc fn first cap).run Tryz.prog w = .ok (.func fn first cap) w := fun _ _ _ _ => rfl
  have hen := eq_nil
  have HS := Lib.hid hs; clear hs
  have HC := Lib.hid hC; clear hC
  have HD := Lib.hid hD; clear hD
  have hb1 : Below w.heap.size w (w.alloc (.cells #[.int .i64 0] 36)) := (Below.refl _ _).alloc (Nat.le_refl _) _
  have HE := Lib.hid (Blk.new w 36 [0])
  have HB1 := Lib.hid (hB.alloc (.cells #[.int .i64 0] 36)); clear hB
  have HB := Lib.hid hb1; clear hb1
  go_enter_defers Tryz.func83, Tryz.ntmps83
  go_wp2_with ((go_at_call 84; refine (val1_none C HC.out HD.out bc _ HB1.out HS.out).mono ?_; rintro e u ⟨rfl, hb2⟩; have HB2 := Lib.hid hb2; clear hb2))
  have HE2 := Lib.hid (HE.out.below HB2.out HE.out.lt)
  refine leaves_cons (f := 120) (args := #[.pointer (some ⟨w.heap.size, 0, none⟩)]) (by simp) (by simp [go_sem]) ?_
  refine (door_err ⟨w.heap.size, 0, none⟩ (.int .i64 0) 2 [] _ ?_ ?_).mono ?_
  · exact HE2.out.cell (k := 0) (by simp)
  · exact HE2.out.frozen 0
  rintro e u' w'' ⟨rfl, rfl, rfl⟩
  have hce := (HE2.out.setCell 0 2).cell (k := 0) (by simp)
  simp at hce
  simp [Leaves, settle, results, Tryz.results83, go_sem, hce]
  exact (HB.out.trans (HB2.out.mono HB.out.size)).setCell (p := ⟨w.heap.size, 0, none⟩) (Nat.le_refl _) _
theorem value_any (C : List Int) (hC : C.length = 579) (hD : ∀ z ∈ seg C 19 16, -9223372036854775808 ≤ z ∧ z ≤ 9223372036854775807) (w : World) :
    Calls Tryz.prog 40 #[.agg (vals C).toArray] w fun e w' => e = .returned (.tuple #[.int .i64 (sumN (valL C)), .int .i64 (sumE (valL C))]) ∧ Below w.heap.size w w' := by
  have hmf : ∀ (fn : Fn) (first cap : Array Value) (w : World), (Instr.makeFunc fn first cap).run Tryz.prog w = .ok (.func fn first cap) w := fun _ _ _ _ => rfl
  have HC := Lib.hid hC; clear hC
  have HD := Lib.hid hD; clear hD
  have HK := Lib.hid (KeepR.start w)
  cases hs : sumFrom 0 (valL C) with
  | some s =>
    obtain ⟨hN, hE⟩ := sumN_some hs
    rw [hN, hE]; clear hN hE
    have HS := Lib.hid hs; clear hs
    go_enter Tryz.func40, Tryz.ntmps40
    go_wp2_with (first
      | (with_reducible refine box_new (R := C) HK.out rfl _ rfl rfl ?_; intro bc u hk hb; clear hb; clear HK; have HK := Lib.hid hk; clear hk)
      | (go_at_call 83; (with_reducible refine (vtry_some C HC.out HD.out _ _ (HK.out.get 0 rfl) s HS.out).mono ?_); rintro e u ⟨rfl, hb⟩; have hk := HK.out.call hb; clear hb; clear HK; have HK := Lib.hid hk; clear hk))
    go_ret2
    exact ⟨rfl, HK.out.bel⟩
  | none =>
    obtain ⟨hN, hE⟩ := sumN_none hs
    rw [hN, hE]; clear hN hE
    have HS := Lib.hid hs; clear hs
    go_enter Tryz.func40, Tryz.ntmps40
    go_wp2_with (first
      | (with_reducible refine box_new (R := C) HK.out rfl _ rfl rfl ?_; intro bc u hk hb; clear hb; clear HK; have HK := Lib.hid hk; clear hk)
      | (go_at_call 83; (with_reducible refine (vtry_none C HC.out HD.out _ _ (HK.out.get 0 rfl) HS.out).mono ?_); rintro e u ⟨rfl, hb⟩; have hk := HK.out.call hb; clear hb; clear HK; have HK := Lib.hid hk; clear hk))
    go_ret2
    exact ⟨rfl, HK.out.bel⟩
set_option maxHeartbeats 1000000 in
theorem rvalue_any (C : List Int) (hC : C.length = 579) (w : World) :
    Calls Tryz.prog 41 #[.agg (vals C).toArray] w fun e w' => e = .returned (.tuple #[.int .i64 (sumN (valL C)), .int .i64 (sumE (valL C))]) ∧ Below w.heap.size w w' := by
  have HX1 := Lib.hid (seg_length (R := C) (o := 307) (n := 16) (by omega))
  have HY := Lib.hid (seg_length (R := C) (o := 19) (n := 16) (by omega))
  have HQ := Lib.hid (show (C.getD 0 0 :: seg C 307 16) ++ negs (seg C 19 16) = valL C from rfl)
  have HC := Lib.hid hC; clear hC
  have HK := Lib.hid (KeepR.start w)
  have HO := Lib.hid True.intro
  go_enter Tryz.func41, Tryz.ntmps41
  go_wp2_with (first
    | (with_reducible refine box_new (R := C) HK.out rfl _ rfl rfl ?_; intro b u hk hb; clear hb; have hc0 := (hk.get 0 rfl).cell (k := 0) (by have := HC.out; omega); clear HK; have HK := Lib.hid hk; clear hk)
    | (with_reducible refine build1 HK.out rfl _ rfl rfl ?_; intro b1 u hk hb; clear hb hc0; have ho := (hk.get 0 rfl).own (hk.blk _ (List.mem_cons_self ..)).1 (n := 1) rfl (by omega); clear HO; have HO := Lib.hid ho; clear ho; have hk1 := hk.tail; clear hk; have hk := hk1; clear hk1; clear HK; have HK := Lib.hid hk; clear hk))
  go_loopw [4, 5] (fun v i wr => ∃ m : Nat, m ≤ 16 ∧ i = .int .i64 m ∧ KeepR w [(b, 28, C)] wr ∧ wr.ownsRow w.heap.size 3 1 v (1 + m) (vals (C.getD 0 0 :: (seg C 307 16).take m))) (fun _ i _ => 16 - (intOf i).toNat)
  case atStart => exact ⟨0, by omega, rfl, HK.out, by simpa using HO.out⟩
  case round =>
    obtain ⟨m, hm, rfl, hk, ho⟩ := hrel
    clear HK HO
    have HK := Lib.hid hk; have HO := Lib.hid ho
    clear hk ho
    by_cases hlt : m < 16
    · have hc1 := (HK.out.get 0 rfl).cell (k := 307 + m) (by have := HC.out; omega)
      have hst := take_snoc (xs := seg C 307 16) (k := m) (by rw [HX1.out]; omega)
      rw [seg_get hlt] at hst
      generalize C.getD (307 + m) 0 = x at hc1 hst
      have HT := Lib.hid hst; clear hst
      have j1 : (0 : Int) ≤ (m : Int) := by omega
      have j2 : (m : Int) < 16 := by omega
      go_wp2_with (first
        | (with_reducible refine build1 HK.out rfl _ rfl rfl ?_; intro b1 u hk hb; clear hc1; have ho := own_below HO.out hb; clear hb HO; have HO := Lib.hid ho; clear ho; have HX := Lib.hid ((hk.get 0 rfl).readsAll (n := 1) rfl (by omega)); have hk1 := hk.tail; clear hk; have hk := hk1; clear hk1; clear HK; have HK := Lib.hid hk; clear hk)
        | (refine wpList_append_ints rfl _ _ rfl w.heap.size _ (1 + m) (C.getD 0 0 :: (seg C 307 16).take m) rfl HO.out _ 1 1 [x] rfl HX.out (by omega) HK.out.bel.size ?_; intro v' u ho hg hv; have hk := HK.out.grown HO.out (by simp) hg; clear HO HX hg hv; have HO := Lib.hid ho; clear ho; clear HK; have HK := Lib.hid hk; clear hk))
      go_roundw
      case rel => exact ⟨m + 1, by omega, by go_num, HK.out, by have h3 := HO.out; rw [List.cons_append, ← HT.out] at h3; exact h3⟩
      case measure => simp [intOf]; omega
    · obtain rfl : m = 16 := by omega
      simp only [show ((16 : Nat) : Int) = 16 from rfl]
      have ho := HO.out
      rw [List.take_of_length_le (by rw [HX1.out]; omega)] at ho
      clear HO
      have HO := Lib.hid ho; clear ho
      have hng : ∀ y : Int, wrap64 (0 - y) = ng y := fun y => by unfold ng; congr 1; omega
      go_wp2
      go_loopw [4, 6] (fun v i wr => ∃ m : Nat, m ≤ 16 ∧ i = .int .i64 m ∧ KeepR w [(b, 28, C)] wr ∧ wr.ownsRow w.heap.size 3 1 v (1 + 16 + m) (vals ((C.getD 0 0 :: seg C 307 16) ++ (negs (seg C 19 16)).take m))) (fun _ i _ => 16 - (intOf i).toNat)
      case atStart => exact ⟨0, by omega, rfl, HK.out, by simpa using HO.out⟩
      case round =>
        obtain ⟨m, hm, rfl, hk, ho⟩ := hrel
        clear HK HO
        have HK := Lib.hid hk; have HO := Lib.hid ho
        clear hk ho
        by_cases hlt : m < 16
        · have hc1 := (HK.out.get 0 rfl).cell (k := 19 + m) (by have := HC.out; omega)
          have hst := take_snoc (xs := negs (seg C 19 16)) (k := m) (by rw [negs_length, HY.out]; omega)
          rw [negs_get (by rw [HY.out]; omega), seg_get hlt] at hst
          generalize C.getD (19 + m) 0 = x at hc1 hst
          have HT := Lib.hid hst; clear hst
          have j1 : (0 : Int) ≤ (m : Int) := by omega
          have j2 : (m : Int) < 16 := by omega
          go_wp2_with (first
            | (with_reducible refine build1 HK.out rfl _ rfl rfl ?_; intro b1 u hk hb; clear hc1; have ho := own_below HO.out hb; clear hb HO; have HO := Lib.hid ho; clear ho; have HX := Lib.hid ((hk.get 0 rfl).readsAll (n := 1) rfl (by omega)); have hk1 := hk.tail; clear hk; have hk := hk1; clear hk1; clear HK; have HK := Lib.hid hk; clear hk)
            | (refine wpList_append_ints rfl _ _ rfl w.heap.size _ (1 + 16 + m) ((C.getD 0 0 :: seg C 307 16) ++ (negs (seg C 19 16)).take m) rfl HO.out _ 1 1 [ng x] rfl HX.out (by omega) HK.out.bel.size ?_; intro v' u ho hg hv; have hk := HK.out.grown HO.out (by simp) hg; clear HO HX hg hv; have HO := Lib.hid ho; clear ho; clear HK; have HK := Lib.hid hk; clear hk))
          go_roundw
          case rel => exact ⟨m + 1, by omega, by go_num, HK.out, by have h3 := HO.out; rw [List.append_assoc, ← HT.out] at h3; exact h3⟩
          case measure => simp [intOf]; omega
        · obtain rfl : m = 16 := by omega
          have ho := HO.out
          rw [List.take_of_length_le (by rw [negs_length, HY.out]; omega), HQ.out] at ho
          obtain ⟨A, c, rfl⟩ := own_slice ho
          have HV := Lib.hid (own_reads ho (by omega)).1
          clear ho HO
          go_wp2_with ((go_at_call 88; (with_reducible refine (rsum_any A _ c (valL C) _ HV.out).mono ?_); rintro e u ⟨rfl, rfl⟩))
          go_ret2
          exact ⟨rfl, HK.out.bel⟩
end Go.Proofs.YtbaccghnneidgaaGreat
