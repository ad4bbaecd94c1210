/- Contracts of counter.Join, Room, between and New, and of the document's Join and New. -/
import Derived.Test.YtofngihdnjgmeaaLRtc
namespace Go.Proofs.Ytofngihdnjgmeaa
set_option maxRecDepth 100000
open Go.ChangeShapes Go.WideShapes Go.ChangeAt Go.RowKit

set_option maxRecDepth 100000 in
theorem room_any (C : List Int) (hC : C.length = 579) (k : Int) (w : World) :
    Calls Try.prog 52 #[.agg (vals C).toArray, .int .i64 k] w fun e w' => e = .returned (.tuple #[.int .i64 (freeN (dnR C) k), .int .i64 (freeN (upR C) k)]) ∧ Below w.heap.size w w' := by
  have HL1 := Lib.hid (show (seg C 3 288).length = 288 from dnR_length hC)
  have HL2 := Lib.hid (show (seg C 291 288).length = 288 from upR_length hC)
  have HC := Lib.hid hC; clear hC
  have HK := Lib.hid (KeepR.start w)
  go_enter Try.func52, Try.ntmps52
  go_wp2_with (first
    | (with_reducible refine box_new (R := C) HK.out rfl _ rfl rfl ?_; intro bc u hk hb; clear hb; clear HK; have HK := Lib.hid hk; clear hk)
    | (with_reducible refine load_part HK.out 0 288 Try.underlying26 rfl r_info rfl _ rfl rfl rfl (by have := HC.out; omega) ?_)
    | (go_at_call 67; (with_reducible refine (free_any (seg C 3 288) HL1.out _ _).mono ?_); rintro e u ⟨rfl, hb⟩; have hk := HK.out.call hb; clear hb; clear HK; have HK := Lib.hid hk; clear hk)
    | (go_at_call 67; (with_reducible refine (free_any (seg C 291 288) HL2.out _ _).mono ?_); rintro e u ⟨rfl, hb⟩; have hk := HK.out.call hb; clear hb; clear HK; have HK := Lib.hid hk; clear hk))
  go_ret2
  exact ⟨rfl, HK.out.bel⟩
end Go.Proofs.Ytofngihdnjgmeaa
