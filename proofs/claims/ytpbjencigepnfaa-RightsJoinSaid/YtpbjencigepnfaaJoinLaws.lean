/- What joining rights hangs on. -/
import Derived.Test.YtpbjencigepnfaaJoin1
namespace Go.Proofs.Ytpbjencigepnfaa
open Go.ChangeShapes Go.WideShapes Go.ChangeAt Go.RowKit

theorem join_comm {x y : List Int} (hx : x.length = 288) (hy : y.length = 288) : joinL y x = joinL x y :=
  ext_get (by rw [joinL_len hx hy, joinL_len hy hx]) fun k hk => by
    rw [joinL_len hy hx] at hk
    rw [joinL_get (by omega) (by omega), joinL_get (by omega) (by omega)]; omega
theorem join_self {x : List Int} (hx : x.length = 288) : joinL x x = x :=
  ext_get (by rw [joinL_len hx hx, hx]) fun k hk => by
    rw [joinL_len hx hx] at hk
    rw [joinL_get (by omega) (by omega)]; omega
theorem join_assoc {x y z : List Int} (hx : x.length = 288) (hy : y.length = 288) (hz : z.length = 288) : joinL x (joinL y z) = joinL (joinL x y) z := by
  have h1 := joinL_len hx hy
  have h2 := joinL_len hy hz
  refine ext_get (by rw [joinL_len hx h2, joinL_len h1 hz]) fun k hk => ?_
  rw [joinL_len hx h2] at hk
  rw [joinL_get (by omega) (by omega), joinL_get (by omega) (by omega), joinL_get (by omega) (by omega), joinL_get (by omega) (by omega)]; omega
theorem join_over_l {x y : List Int} (hx : x.length = 288) (hy : y.length = 288) : overB (joinL x y) x = true := by
  have h1 := joinL_len hx hy
  simp only [overB, beq_iff_eq]
  refine ext_get (by rw [joinL_len h1 hx, h1]) fun k hk => ?_
  rw [joinL_len h1 hx] at hk
  rw [joinL_get (by omega) (by omega), joinL_get (by omega) (by omega)]; omega
theorem join_over_r {x y : List Int} (hx : x.length = 288) (hy : y.length = 288) : overB (joinL x y) y = true := by
  have h1 := joinL_len hx hy
  simp only [overB, beq_iff_eq]
  refine ext_get (by rw [joinL_len h1 hy, h1]) fun k hk => ?_
  rw [joinL_len h1 hy] at hk
  rw [joinL_get (by omega) (by omega), joinL_get (by omega) (by omega)]; omega
end Go.Proofs.Ytpbjencigepnfaa
