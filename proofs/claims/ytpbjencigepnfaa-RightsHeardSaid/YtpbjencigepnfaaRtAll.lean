/- All states joined: what is free in them; rows of states. -/
import Derived.Deep.AppendSrc
import Derived.Test.YtpbjencigepnfaaPlay
namespace Go.Proofs.Ytpbjencigepnfaa
open Go.ChangeShapes Go.WideShapes Go.ChangeAt Go.RowKit

theorem r_size : ∀ w, (sizeOf 26).run Try.prog w = .ok 288 w := fun w => by kernel_rfl
theorem index_s {S : List Int} {k : Nat} (hk : k < 16) (w : World) : (Instr.index 42 (.agg (vals S).toArray) (.int .i64 (k : Int))).run Try.prog w = .ok (.agg (vals (seg S (k * 288) 288)).toArray) w := by
  have hp := part_row (P := Try.prog) Try.underlying26 rfl r_size S (k * 288) w
  simp [Instr.index, asIntOf, run_underlying Try.underlying42, hk, hp]
/-- What all of them know. -/
structure AllOf (S AL : List Int) : Prop where
  len : AL.length = 288
  is : ∀ p, p < 288 → at_ AL p = mx (st S) 16 p
theorem AllOf.told {S AL : List Int} (h : Inv 60 (st S)) (ha : AllOf S AL) {k : Nat} (hk : k < 16) : freeE AL k = 0 ∧ freeN AL k = V (mx (st S) 16) k := by
  have hb : ∀ i, i < 288 → 0 ≤ AL.getD i 0 ∧ AL.getD i 0 ≤ 60000 := fun i hi => by
    have h1 := h.all_pos hi
    have h2 := ha.is i hi
    simp only [at_] at h2
    rw [h2]; omega
  obtain ⟨e1, e2⟩ := free_small ha.len hb (by omega) hk
  exact ⟨e1, by rw [e2]; exact V_congr ha.is hk⟩
theorem AllOf.total {S AL : List Int} (h : Inv 60 (st S)) (ha : AllOf S AL) : sumE (totL AL) = 0 ∧ sumN (totL AL) = sumF (V (mx (st S) 16)) 16 := by
  have hb : ∀ i, i < 288 → 0 ≤ AL.getD i 0 ∧ AL.getD i 0 ≤ 60000 := fun i hi => by
    have h1 := h.all_pos hi
    have h2 := ha.is i hi
    simp only [at_] at h2
    rw [h2]; omega
  obtain ⟨e1, e2⟩ := total_small ha.len hb (by omega)
  refine ⟨e1, ?_⟩
  rw [e2, V_all]
  unfold WT
  rw [sumF_congr (f := fun k => at_ AL k) (g := fun k => mx (st S) 16 k) (fun i hi => ha.is i (by omega)), sumF_congr (f := fun k => at_ AL (16 + k)) (g := fun k => mx (st S) 16 (16 + k)) (fun i hi => ha.is _ (by omega))]
/-- One state more is joined. -/
theorem mx_step {S AL : List Int} {m : Nat} (hS : S.length = 4608) (hm : m < 16) (hl : AL.length = 288) (h : ∀ p, p < 288 → at_ AL p = mx (st S) m p) : ∀ p, p < 288 → at_ (joinL AL (seg S (m * 288) 288)) p = mx (st S) (m + 1) p := fun p hp => by
  rw [join_at hl (seg_length (by omega)) hp, h p hp, st_seg hp]; rfl
theorem rr_info3 : (Try.prog.info? 26).map (fun i => (i.zero, i.size, i.bytes)) = some (some (.agg (vals (zer 288)).toArray), 288, 2304) := by kernel_rfl
theorem run_buildr1 (xs : List Int) (hx : xs.length = 288) (u : World) : (Instr.buildSlice 44 1 #[(0, .agg (vals xs).toArray)]).run Try.prog u = .ok (.slice (some ⟨u.heap.size, 0, none⟩) 1 1) (u.alloc (.cells (vals xs).toArray 26)) := by
  obtain ⟨i0, hi0, hz0, hz1, hz2⟩ := info_parts rr_info3
  have hzr := zero_rows 1 288 (by omega)
  have hf : Instr.fill (fun i => some (i * 288, 288)) ((Array.range (1 * 288)).map (fun i => (vals (zer 288)).toArray[i % (vals (zer 288)).toArray.size]!)) [(0, .agg (vals xs).toArray)] = some (vals xs).toArray := by
    rw [hzr]
    simp only [Instr.fill, Value.cells, List.size_toArray, vals_length, zer_length, hx]
    rw [if_neg (by simp), fold_splice xs (zer (1 * 288)) (0 * 288), splice_all (by rw [zer_length, hx])]
  simp [] at hf
  simp [Instr.buildSlice, run_underlying Try.underlying44, sizeOf, typeInfo, zeroValue, hi0, hz0, hz1, Value.cells, newRow, newObj, hf]
  rfl
theorem wp_buildr1 {o : Oper} {a : Act} {w u : World} {l : List (Nat × TypeId × List Int)} {K : Act → World → Prop} {Q : Exit → Act → World → Prop} (hk : KeepR w l u) (x : Operand) (ho : o.op = .buildSlice 44 1 #[(0, x)]) {xs : List Int} (hx : a.eval x = .agg (vals xs).toArray) (lx : xs.length = 288)
    (h : ∀ b u', KeepR w ((b, 26, xs) :: l) u' → Below u.heap.size u u' → K (a.put o.dst (.slice (some ⟨b, 0, none⟩) 1 1)) u') : o.wp Try.prog a u K Q := by
  unfold Oper.wp execOp
  simp only [ho, List.map_toArray, List.map_cons, List.map_nil, hx, Sem.run_bind, Sem.run_pure, Result.andThen_ok, run_buildr1 xs lx]
  exact h _ _ (hk.new rfl) (box u _ _).2
theorem append_states {u : World} {b3 bq : Nat} {t t' : TypeId} {S AL : List Int} (hS : Blk u b3 t S) (lS : S.length = 4608) (hA : Blk u bq t' AL) (lA : AL.length = 288) (ty : TypeId) :
    ∃ g c u', (Builtin.append_ #[44, 44] ty #[.slice (some ⟨b3, 0, none⟩) 16 16, .slice (some ⟨bq, 0, none⟩) 1 1]).run Try.prog u = .ok (.slice (some ⟨g, 0, none⟩) 17 c) u' ∧ RowAt u' g (S ++ AL) ∧ Below u.heap.size u u' := by
  obtain ⟨i0, hi0, hz0, hz1, hz2⟩ := info_parts rr_info3
  have hold : (Builtin.firstCells i0.size 16 (.slice (some ⟨b3, 0, none⟩) 16 16)).run Try.prog u.drew = .ok (vals S).toArray u.drew :=
    run_firstCells_some u.drew i0.size 16 ⟨b3, 0, none⟩ 16 16 (vals S) (by rw [vals_length, hz1, lS]) (fun j v hv => by rw [Addr.add_mid]; exact hS.drew.range j v hv)
  have hsrc : Src Try.prog i0.size 44 (.slice (some ⟨bq, 0, none⟩) 1 1) 1 (vals AL) u :=
    Src.ofSlice (w := u) Try.underlying44 ⟨bq, 0, none⟩ 1 1 (vals AL) (by rw [vals_length, hz1, lA]) (fun j v hv => by rw [Addr.add_mid]; exact hA.range j v hv) (vals_one _)
  have hr := run_append_grow_src (P := Try.prog) (w := u) 44 44 ty 26 i0 _ Try.underlying44 hi0 hz0 (some ⟨b3, 0, none⟩) 16 16 (vals S) hold _ 1 (vals AL) hsrc (by omega) (by omega) (by rw [hz2]; decide)
  rw [← vals_append] at hr
  generalize Builtin.zeroCells (Value.agg (vals (zer 288)).toArray).cells (grownCap u (16 + 1) 16 26 - (16 + 1)) = Z at hr
  refine ⟨u.heap.size, _, _, hr, ?_, (Below.refl u.heap.size u).drew.alloc (Nat.le_refl _) _⟩
  have hh := heap_alloc_new u.drew (.cells ((vals (S ++ AL)).toArray ++ Z) 26)
  refine ⟨fun j v hv => ?_, by simp⟩
  have hj : j < (vals (S ++ AL)).length := (List.getElem?_eq_some_iff.1 hv).1
  show (u.drew.alloc (.cells ((vals (S ++ AL)).toArray ++ Z) 26)).cell? ⟨u.drew.heap.size, 0 + j, none⟩ = some v
  rw [cell_of_row _ _ _ _ _ (0, 0) hh, Nat.zero_add, Array.getElem?_append_left (by simpa using hj)]
  simpa using hv
theorem load_rowr {ops : Array Oper} {rest : List Oper} {o : Oper} {a : Act} {u : World} {Q : Exit → Act → World → Prop} {b : Nat} {R : List Int} (hk : RowAt u b R) (hgd : o.guard = none) (x : Operand) (ho : o.op = .load 26 x) {off : Nat} (hx : a.eval x = .pointer (some ⟨b, off, none⟩)) (hr : off + 288 ≤ R.length)
    (h : wpList Try.prog ops Q rest (a.put o.dst (.agg (vals (seg R off 288)).toArray)) u) : wpList Try.prog ops Q (o :: rest) a u :=
  wpList_load_mid hgd _ x ho b off hx _ _ (range_seg hk.rng hr) Try.underlying26 rfl (by rw [vals_length, seg_length hr]; exact r_info) h
/-- Each of the states, and all of them joined: what is free is told, and not below 0. -/
theorem each_free {S AL : List Int} (hS : S.length = 4608) (h : Inv 60 (st S)) (ha : AllOf S AL) {i k : Nat} (hi : i < 17) (hk : k < 16) : freeE (seg (S ++ AL) (i * 288) 288) k = 0 ∧ 0 ≤ freeN (seg (S ++ AL) (i * 288) 288) k := by
  by_cases h1 : i < 16
  · have e : seg (S ++ AL) (i * 288) 288 = seg S (i * 288) 288 := by
      simp only [seg, List.drop_append, List.take_append, List.length_drop]
      rw [show 288 - (S.length - i * 288) = 0 by omega]
      simp
    rw [e]
    obtain ⟨e1, e2⟩ := h.told (Nat.le_refl _) hS h1 hk
    exact ⟨e1, by rw [e2]; exact h.free i k h1 hk⟩
  · obtain rfl : i = 16 := by omega
    have e : seg (S ++ AL) (16 * 288) 288 = AL := by
      have hl := ha.len
      simp only [seg, List.drop_append, List.take_append]
      rw [List.drop_of_length_le (by omega), hS]
      simp [List.take_of_length_le, hl]
    rw [e]
    obtain ⟨e1, e2⟩ := ha.told h hk
    exact ⟨e1, by rw [e2]; exact h.all_free hk⟩
end Go.Proofs.Ytpbjencigepnfaa
