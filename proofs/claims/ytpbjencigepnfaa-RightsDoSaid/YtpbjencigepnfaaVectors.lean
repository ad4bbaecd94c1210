/- Aggregates that are filled with parts; rows of vectors; a contract of rights.vectors. -/
import Derived.Test.YtpbjencigepnfaaFreeB
namespace Go.Proofs.Ytpbjencigepnfaa
open Go.ChangeShapes Go.WideShapes Go.ChangeAt Go.RowKit

theorem zip_splice : ∀ (zs Z : List Int) (off k : Nat), List.foldl (fun (cs : Array Value) (p : Value × Nat) => cs.setIfInBounds (off + p.2) p.1) (vals Z).toArray ((vals zs).zipIdx k) = (vals (splice Z (off + k) zs)).toArray
  | [], _, _, _ => rfl
  | z :: zs, Z, off, k => by
    have h := zip_splice zs (Z.set (off + k) z) off (k + 1)
    simp only [vals, List.map_cons, List.zipIdx_cons, List.foldl_cons, splice]
    have e : (Array.mk (List.map (Value.int .i64) Z)).setIfInBounds (off + k) (.int .i64 z) = (vals (Z.set (off + k) z)).toArray := by
      rw [← vals_set]; simp [vals]
    rw [e]
    exact h
theorem fold_splice (zs Z : List Int) (off : Nat) : (vals zs).toArray.zipIdx.foldl (fun cs x => match x with | (c, j) => cs.setIfInBounds (off + j) c) (vals Z).toArray = (vals (splice Z off zs)).toArray := by
  have := zip_splice zs Z off 0
  rw [Nat.add_zero] at this
  rw [← this]
  simp
theorem zero_rows (n m : Nat) (hm : 0 < m) : (Array.range (n * m)).map (fun i => (vals (zer m)).toArray[i % (vals (zer m)).toArray.size]!) = (vals (zer (n * m))).toArray := by
  apply Array.ext
  · simp [vals_length, zer_length]
  · intro i h1 h2
    have h3 : i % m < m := Nat.mod_lt _ hm
    simp [vals, zer, h3]
theorem vec_info3 : (Try.prog.info? 23).map (fun i => (i.zero, i.size, i.bytes)) = some (some (.agg (vals (zer 16)).toArray), 16, 128) := by kernel_rfl
theorem run_buildv2 (xs ys : List Int) (hx : xs.length = 16) (hy : ys.length = 16) (u : World) : (Instr.buildSlice 46 2 #[(0, .agg (vals xs).toArray), (1, .agg (vals ys).toArray)]).run Try.prog u = .ok (.slice (some ⟨u.heap.size, 0, none⟩) 2 2) (u.alloc (.cells (vals (splice (splice (zer 32) 0 xs) 16 ys)).toArray 23)) := by
  obtain ⟨i0, hi0, hz0, hz1, hz2⟩ := info_parts vec_info3
  have hzr := zero_rows 2 16 (by omega)
  have hf : Instr.fill (fun i => some (i * 16, 16)) ((Array.range (2 * 16)).map (fun i => (vals (zer 16)).toArray[i % (vals (zer 16)).toArray.size]!)) [(0, .agg (vals xs).toArray), (1, .agg (vals ys).toArray)] = some (vals (splice (splice (zer 32) 0 xs) 16 ys)).toArray := by
    rw [hzr]
    simp only [Instr.fill, Value.cells, List.size_toArray, vals_length, zer_length, hx, hy]
    rw [if_neg (by simp), fold_splice xs (zer (2 * 16)) (0 * 16)]
    simp only [List.size_toArray, vals_length, splice_length, zer_length]
    rw [if_neg (by simp), fold_splice ys _ (1 * 16)]
  simp [] at hf
  simp [Instr.buildSlice, run_underlying Try.underlying46, sizeOf, typeInfo, zeroValue, hi0, hz0, hz1, Value.cells, newRow, newObj, hf]
  rfl
end Go.Proofs.Ytpbjencigepnfaa
