/- Rights, built of two vectors. -/
import Derived.Test.YtpbjencigepnfaaJoin2
namespace Go.Proofs.Ytpbjencigepnfaa
open Go.ChangeShapes Go.WideShapes Go.ChangeAt Go.RowKit

theorem r_info3 : (Try.prog.info? 26).map (fun i => (i.zero, i.size, i.bytes)) = some (some (.agg (vals (zer 288)).toArray), 288, 2304) := by kernel_rfl
theorem fill2 (xs ys : List Int) (hx : xs.length = 16) (hy : ys.length = 16) (pl : Nat → Option (Nat × Nat)) (h0 : pl 0 = some (0, 16)) (h1 : pl 1 = some (16, 16)) :
    Instr.fill pl (vals (zer 288)).toArray [(0, .agg (vals xs).toArray), (1, .agg (vals ys).toArray)] = some (vals (splice (splice (zer 288) 0 xs) 16 ys)).toArray := by
  simp only [Instr.fill, h0, h1, Value.cells, List.size_toArray, vals_length, zer_length, hx, hy]
  rw [if_neg (by simp), fold_splice xs (zer 288) 0]
  simp only [List.size_toArray, vals_length, splice_length, zer_length]
  rw [if_neg (by simp), fold_splice ys _ 16]
theorem run_build_r (xs ys : List Int) (hx : xs.length = 16) (hy : ys.length = 16) (u : World) : (Instr.build 26 #[(0, .agg (vals xs).toArray), (1, .agg (vals ys).toArray)]).run Try.prog u = .ok (.agg (vals (splice (splice (zer 288) 0 xs) 16 ys)).toArray) u := by
  obtain ⟨i0, hi0, hz0, hz1, hz2⟩ := info_parts r_info3
  obtain ⟨f, g, k, hf, e1, e2, e3⟩ := fields3 r_fields
  injection e1 with e1a e1; injection e1 with e1b e1c
  injection e2 with e2a e2; injection e2 with e2b e2c
  injection e3 with e3a e3; injection e3 with e3b e3c
  have hf' : Try.prog.fieldsOf 26 = #[f, g, k] := by
    apply Array.toList_inj.1; rw [hf]
  have s1 := vec_size; have s2 := mov_size
  have hu := r_under
  rw [hf'] at hu
  have hfl := fill2 xs ys hx hy ([(0, 16), (16, 16), (32, 256)][·]?) rfl rfl
  simp [Instr.build, run_underlying hu, zeroValue, typeInfo, hi0, hz0, Value.cells, e1a, e1b, e2a, e2b, e3a, e3b, s1, s2]
  rw [hfl]
  simp
theorem yield_build_r {ops : Array Oper} {S : World → Prop} {o : Oper} {a : Act} (hw : Region.wanted o (yielded ops a.tmps) = true) (x y : Operand) (ho : o.op = .build 26 #[(0, x), (1, y)]) {xs ys : List Int} (hx : a.eval x = .agg (vals xs).toArray) (hy : a.eval y = .agg (vals ys).toArray) (lx : xs.length = 16) (ly : ys.length = 16) :
    YieldsIf Try.prog ops S o (.agg (vals (splice (splice (zer 288) 0 xs) 16 ys)).toArray) a :=
  .inl ⟨hw, fun u _ => by
    unfold execOp
    simp only [ho, List.map_toArray, List.map_cons, List.map_nil, hx, hy, Sem.run_bind, Sem.run_pure, Result.andThen_ok, run_build_r xs ys lx ly]⟩
/-- A region goes through a meeting point. -/
theorem region_via {P : Program} {id : Nat} {ops : Array Oper} {Q : Exit → Act → World → Prop} {a : Act} {w : World} (G : Act → World → Prop) (h1 : (Code.region id ops true).wp P (fun e a w => e = .normal ∧ G a w) a w) (h2 : ∀ a w, G a w → Q .normal a w) : (Code.region id ops true).wp P Q a w :=
  Code.wp_mono (fun e a w h => by obtain ⟨rfl, h⟩ := h; exact h2 a w h) h1
theorem wp_alloc_zero {o : Oper} {a : Act} {w u : World} {l : List (Nat × TypeId × List Int)} {K : Act → World → Prop} {Q : Exit → Act → World → Prop} (hk : KeepR w l u) (n : Nat) {ty : TypeId} (hz : (Try.prog.info? ty).bind (·.zero) = some (.agg (vals (zer n)).toArray)) (ho : o.op = .alloc ty)
    (h : ∀ b u', KeepR w ((b, ty, zer n) :: l) u' → Below u.heap.size u u' → K (a.put o.dst (.pointer (some ⟨b, 0, none⟩))) u') : o.wp Try.prog a u K Q := by
  have e : (Instr.alloc ty true (.tuple #[])).run Try.prog u = .ok (.pointer (some ⟨u.heap.size, 0, none⟩)) (u.alloc (.cells (vals (zer n)).toArray ty)) := by
    cases hq : Try.prog.info? ty with
    | none => simp [hq] at hz
    | some i =>
      simp only [hq, Option.bind_some] at hz
      simp [Instr.alloc, zeroValue, typeInfo, hq, hz, newVar, newRow, newObj, Value.cells]
      rfl
  unfold Oper.wp execOp
  simp only [ho, Sem.run_bind, Sem.run_pure, Result.andThen_ok, e]
  exact h _ _ (hk.new rfl) (box u _ _).2
/-- Numbers are stored into the whole, or a part, of a kept block. -/
theorem wp_store_part {o : Oper} {a : Act} {w u : World} {l : List (Nat × TypeId × List Int)} {K : Act → World → Prop} {Q : Exit → Act → World → Prop} (hk : KeepR w l u) (i : Nat) (n : Nat) {ty : TypeId} (hs : (Try.prog.info? ty).map (·.size) = some n)
    (hd : o.dst = none) (x y : Operand) (ho : o.op = .store ty x y) {b off : Nat} {t : TypeId} {R zs : List Int} (hi : l[i]? = some (b, t, R)) (hx : a.eval x = .pointer (some ⟨b, off, none⟩)) (hy : a.eval y = .agg (vals zs).toArray) (hz : zs.length = n) (hr : off + n ≤ R.length)
    (h : ∀ u', KeepR w (l.set i (b, t, splice R off zs)) u' → K a u') : o.wp Try.prog a u K Q :=
  wp_store_mid ty x y ho b off _ hx hy (by simp only [List.size_toArray, vals_length, hz]; exact (hk.get i hi).thereAt hr) (by simp only [List.size_toArray, vals_length, hz]; exact hs) (vals_all zs)
    (by rw [hd]; simpa [Act.put] using h _ (hk.setCells i hi off zs))
theorem two_joins {R T : List Int} (hR : R.length = 288) (hT : T.length = 288) : splice (splice (zer 288) 0 (joinL (seg R 0 16) (seg T 0 16))) 16 (joinL (seg R 16 16) (seg T 16 16)) = mix 32 (joinL R T) (zer 288) := by
  have hJ := joinL_len hR hT
  have hz := zer_length 288
  rw [seg_join (by omega) (by omega), seg_join (by omega) (by omega)]
  have h1 := mix_splice (J := joinL R T) (R := zer 288) (by omega) (m := 0) (n := 16) (by omega)
  rw [mix_zero] at h1
  rw [h1]
  exact mix_splice (J := joinL R T) (R := zer 288) (by omega) (m := 16) (n := 16) (by omega)
theorem rjoin_step {R T : List Int} (hR : R.length = 288) (hT : T.length = 288) {m : Nat} (hm : m + 16 ≤ 288) : splice (mix m (joinL R T) (zer 288)) m (joinL (seg R m 16) (seg T m 16)) = mix (m + 16) (joinL R T) (zer 288) := by
  have hJ := joinL_len hR hT
  have hz := zer_length 288
  rw [seg_join (by omega) (by omega), mix_splice (by omega) (by omega)]
end Go.Proofs.Ytpbjencigepnfaa
