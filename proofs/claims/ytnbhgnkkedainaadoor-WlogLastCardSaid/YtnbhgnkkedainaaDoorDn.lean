/- Contracts of disk.copied, New, Bytes, Safe and Room. -/
import Derived.Test.YtnbhgnkkedainaaDoorDk
import Derived.Laws.CopyOwn
import Derived.Laws.MakeOwn
namespace Go.Proofs.YtnbhgnkkedainaaDoor
open Go.ChangeShapes Go.WideShapes Go.ChangeAt Go.RowKit

/-- So many zeros. -/
def zs (n : Nat) : List UInt8 := List.replicate n 0
theorem zs_length (n : Nat) : (zs n).length = n := by simp [zs]
theorem made_bys (n : Nat) : madeCells (Value.int .u8 0).cells (n * 1) = (bys (zs n)).toArray := by
  apply Array.ext
  · simp [size_madeCells, bys_length, zs_length]
  · intro i h1 h2
    simp [madeCells, bys, zs, Value.cells, Nat.mod_one]
theorem make_bys {u : World} {ops : Array Oper} {rest : List Oper} {o : Oper} {a : Act} {Q : Exit → Act → World → Prop} (n : Nat) (hn : n ≤ 1048576) (hgd : o.guard = none) (x y : Operand) (ho : o.op = .makeSlice 34 x y) (hx : a.eval x = .int .i64 (n : Int)) (hy : a.eval y = .int .i64 (n : Int))
    (h : wpList Tryd.prog ops Q rest (a.put o.dst (.slice (some ⟨u.heap.size, 0, none⟩) n n)) (u.alloc (.cells (bys (zs n)).toArray 5))) : wpList Tryd.prog ops Q (o :: rest) a u :=
  wpList_plain hgd fun K hK => by
    obtain ⟨i0, hi0, hz0, hz1, hz2⟩ := info_parts b_info
    have e := run_make (P := Tryd.prog) u 34 5 i0 (.int .u8 0) Tryd.underlying34 hi0 hz0 .i64 .i64 (n : Int) (n : Int) (by omega) (Int.le_refl _) (by rw [hz2]; omega) (by omega)
    simp only [Int.toNat_natCast, hz1, made_bys] at e
    unfold Oper.wp execOp
    simp only [ho, hx, hy, Sem.run_bind, Sem.run_pure, Result.andThen_ok, e]
    exact hK _ _ h
theorem slice_nn (A : Option Addr) (n c : Nat) (h : n ≤ c) (W : World) : (Instr.slice 34 (.slice A n c) none (some (.int .i64 (n : Int))) (some (.int .i64 (n : Int)))).run Tryd.prog W = .ok (.slice (if n = 0 then A else A.map (·.add 0)) n n) W := by
  obtain ⟨i0, hi0, hz0, hz1, hz2⟩ := info_parts b_info
  simp [Instr.slice, run_underlying Tryd.underlying34, Instr.sliceBounds, Instr.sliceBound, asIntOf, sizeOf, typeInfo, hi0, h]
theorem high0 (A : Option Addr) (c : Nat) : (if c = 0 then A else A.map (·.add 0)) = A := by
  split
  · rfl
  · cases A with
    | none => rfl
    | some a => rfl
theorem copied_any (A : Option Addr) (k c : Nat) (l : List UInt8) (hl : l.length = k) (hm : k ≤ 1048576) (w : World) (hd : Bys w A l) :
    Calls Tryd.prog 34 #[.slice A k c] w (Makes w l) := by
  have HD := Lib.hid hd; have HL := Lib.hid hl
  have hq := fun (B : Option Addr) (W : World) => slice_nn B k k (Nat.le_refl _) W
  simp only [high0] at hq
  clear hd hl
  have HN := Lib.hid (show (bys l).length = Nat.min k k by rw [bys_length, HL.out]; exact (Nat.min_self k).symm)
  have HF := Lib.hid (show 0 + (bys l).length ≤ (bys (zs k)).length by rw [bys_length, bys_length, zs_length, HL.out]; omega)
  have HG := Lib.hid (heap_alloc_new w (.cells (bys (zs k)).toArray 5))
  have HB := Lib.hid (below_new w (.cells (bys (zs k)).toArray 5))
  have HP : Hid (0 < (bys l).length → (some ⟨w.heap.size, 0, none⟩ : Option Addr) = some ⟨w.heap.size, 0, none⟩ ∧ ∃ ad, A = some ad ∧ ∀ j v, (bys l)[j]? = some v → (w.alloc (.cells (bys (zs k)).toArray 5)).cell? (ad.add j) = some v) := by
    intro h0
    refine ⟨rfl, ?_⟩
    rw [bys_length] at h0
    obtain ⟨b, off, hA, _⟩ := HD.out.at h0
    refine ⟨_, hA, fun j v hv => ?_⟩
    obtain ⟨hj, rfl⟩ := bys_at hv
    obtain ⟨b', off', hA', hc⟩ := (HD.out.below HB.out).at hj
    rw [hA] at hA'
    injection hA' with hA'
    injection hA' with e1 e2
    subst e1; subst e2
    rw [Go.WideShapes.add_plain]
    exact hc
  go_enter Tryd.func34, Tryd.ntmps34
  go_wp2_with (first
    | (with_reducible refine make_bys k hm rfl _ _ rfl rfl rfl ?_)
    | (refine wpList_copy_splice rfl _ _ _ _ rfl 5 Tryd.underlying34 (by kernel_rfl) _ _ _ _ _ _ rfl rfl w.heap.size 0 (bys (zs k)) 5 HG.out (bys l) HN.out HP.out HF.out (bys_one l) w.heap.size w HB.out (Nat.le_refl _) ?_; intro u HU hb; have HV := Lib.hid hb; clear hb; rw [bys_length, HL.out]))
  go_ret
  have hs : splice (bys (zs k)) 0 (bys l) = bys l := by
    simp only [splice, List.take_zero, List.nil_append, Nat.zero_add, bys_length, HL.out]
    rw [List.drop_eq_nil_of_le (by rw [bys_length, zs_length]; exact Nat.le_refl _), List.append_nil]
  have hu := HU.out
  rw [hs] at hu
  refine makes_of (w := u) (l := l) (v := .slice (some ⟨w.heap.size, 0, none⟩) k k) ⟨HV.out, ?_⟩
  refine ⟨by simp [bys_length], .inr ⟨w.heap.size, k, (bys l).toArray, by rw [HL.out], Nat.le_refl _, hu, by rw [HL.out]; exact Nat.le_refl _, by simp only [maxLen]; omega, by simp [bys_length, HL.out], ?_⟩⟩
  rw [Nat.mul_one, ← bys_length l]
  exact List.take_length
end Go.Proofs.YtnbhgnkkedainaaDoor
