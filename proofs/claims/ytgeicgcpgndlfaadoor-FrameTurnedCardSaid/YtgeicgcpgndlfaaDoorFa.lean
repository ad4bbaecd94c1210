/- The contract of awake. -/
import Derived.Test.YtgeicgcpgndlfaaDoorFy
import Derived.Lib.SlBytesConst
namespace Go.Proofs.YtgeicgcpgndlfaaDoor
open Go.ChangeShapes Go.WideShapes Go.ChangeAt Go.RowKit

theorem crc_nine : crc [49, 50, 51, 52, 53, 54, 55, 56, 57] = 3421780262 := by decide +kernel
theorem frm_a : (frm [97]).length = 9 ∧ ((frm [97]).getD 0 0).toNat = 1 := by decide +kernel
theorem bys_marked (u : World) (cs : Array Value) (l : List UInt8) (h : cs = (bys l).toArray) (fz : Nat × Nat) : Bys (u.alloc (.cells cs 5 fz)) (some ⟨u.heap.size, 0, none⟩) l := by
  subst h
  refine .inr ⟨u.heap.size, 0, rfl, fun i hi => ?_⟩
  rw [cell_of_row _ u.heap.size (0 + i) _ 5 _ (heap_alloc_new u _)]
  rw [Nat.zero_add, List.getElem?_toArray, bys_get hi]
theorem put_a (u : World) (hw : Nib u) (fz : Nat × Nat) : Calls Tryd.prog 11 #[.slice (some ⟨u.heap.size, 0, none⟩) 1 1] (u.alloc (.cells #[.int .u8 97] 5 fz)) fun e w' => ∃ b o c, e = .returned (.tuple #[.slice (some ⟨b, o, none⟩) 9 c, .int .i64 0]) ∧ Below u.heap.size u w' ∧ w'.cell? ⟨b, o, none⟩ = some (.int .u8 1) := by
  obtain ⟨h1, h2⟩ := frm_a
  refine (put_any _ 1 1 [97] rfl (by decide) _ (bys_marked u _ [97] rfl fz) (hw.below (below_new _ _))).mono ?_
  rintro e w' ⟨A, c, ⟨rfl, _⟩, hk⟩
  have hy := hk.own.bys
  have hb := hk.bel
  clear hk
  generalize frm [97] = F at *
  obtain ⟨b, o, rfl, hc⟩ := hy.at (k := 0) (by omega)
  rw [h2] at hc
  exact ⟨b, o, c, by rw [h1], (below_new _ _).trans (hb.mono (below_new _ _).size), hc⟩
theorem sum_nine (u : World) (hw : Nib u) (p : Addr) (v : Value) (hc : u.cell? p = some v) (fz : Nat × Nat) : Calls Tryd.prog 13 #[.slice (some ⟨u.heap.size, 0, none⟩) 9 9] (u.alloc (.cells #[.int .u8 49, .int .u8 50, .int .u8 51, .int .u8 52, .int .u8 53, .int .u8 54, .int .u8 55, .int .u8 56, .int .u8 57] 5 fz)) fun e w' => e = .returned (.int .u32 3421780262) ∧ w'.cell? p = some v ∧ Below u.heap.size u w' := by
  refine (sum_at _ 9 9 [49, 50, 51, 52, 53, 54, 55, 56, 57] 3421780262 rfl (by decide) crc_nine _ (bys_marked u _ _ rfl fz) (hw.below (below_new _ _))).mono ?_
  rintro e w' ⟨rfl, rfl⟩
  exact ⟨rfl, by rw [(below_new u _).cell (cell_lt hc)]; exact hc, below_new _ _⟩
theorem awake_any (w : World) (hw : Nib w) : Calls Tryd.prog 10 #[] w fun e w' => e = .returned (.bool true) ∧ Below w.heap.size w w' := by
  have HW := Lib.hid hw
  clear hw
  have kc := fun (w : World) (C : Array Value) (n c : Nat) => Lib.run_convert_bytes_const (P := Tryd.prog) w 22 5 C n c Tryd.underlying22 Tryd.underlying5
  go_enter Tryd.func10, Tryd.ntmps10
  go_wp2_with (first
    | (go_at_call 11; (with_reducible refine (put_a _ HW.out _).mono ?_); rintro e u ⟨b, o, c, rfl, hb, hc⟩; have HB := Lib.hid hb; have HC := Lib.hid hc; clear hb hc)
    | (go_at_call 13; (with_reducible refine (sum_nine _ (HW.out.below HB.out) _ _ HC.out _).mono ?_); rintro e u ⟨rfl, hc, hb⟩; have hb := HB.out.trans (hb.mono HB.out.size); clear HB; have HB := Lib.hid hb; clear hb))
  go_ret
  exact ⟨rfl, HB.out⟩
end Go.Proofs.YtgeicgcpgndlfaaDoor
