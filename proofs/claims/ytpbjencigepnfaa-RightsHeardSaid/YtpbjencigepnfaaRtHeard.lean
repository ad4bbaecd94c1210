/- What one hears, of what holds of all replicas. No walk. -/
import Derived.Test.YtpbjencigepnfaaJoinLaws
import Derived.Test.YtpbjencigepnfaaRtAll
namespace Go.Proofs.Ytpbjencigepnfaa
open Go.ChangeShapes Go.WideShapes Go.ChangeAt Go.RowKit

theorem join_again {x y : List Int} (hx : x.length = 288) (hy : y.length = 288) : joinL (joinL x y) y = joinL x y := by
  have h1 := joinL_len hx hy
  refine ext_get (by rw [joinL_len h1 hy, h1]) fun k hk => ?_
  rw [joinL_len h1 hy] at hk
  rw [joinL_get (by omega) (by omega), joinL_get (by omega) (by omega)]; omega
/-- What one hears makes nothing less free at oneself. -/
theorem heard_free {S : List Int} (h : Inv 60 (st S)) (hS : S.length = 4608) {a b : Nat} (ha : a < 16) (hb : b < 16) : freeE (joinL (seg S (a * 288) 288) (seg S (b * 288) 288)) a = 0 ∧ ∃ y, freeN (joinL (seg S (a * 288) 288) (seg S (b * 288) 288)) a = y ∧ V (st S a) a ≤ y := by
  have la : (seg S (a * 288) 288).length = 288 := seg_length (by omega)
  have lb : (seg S (b * 288) 288).length = 288 := seg_length (by omega)
  have hr : ∀ p, p < 288 → at_ (joinL (seg S (a * 288) 288) (seg S (b * 288) 288)) p = max (st S a p) (st S b p) := fun p hp => by rw [join_at la lb hp, st_seg hp, st_seg hp]
  have hbd : ∀ i, i < 288 → 0 ≤ (joinL (seg S (a * 288) 288) (seg S (b * 288) 288)).getD i 0 ∧ (joinL (seg S (a * 288) 288) (seg S (b * 288) 288)).getD i 0 ≤ 60000 := fun i hi => by
    have h1 := h.pos a i ha hi; have h2 := h.pos b i hb hi
    have h3 := hr i hi
    simp only [at_] at h3
    rw [h3]; omega
  obtain ⟨e1, e2⟩ := free_small (joinL_len la lb) hbd (by omega) ha
  refine ⟨e1, _, e2, V_ge (fun p hp => ?_) (fun m hm => ?_)⟩
  · rw [hr p (mine_lt ha hp)]
    have := h.top b a p hb ha hp
    omega
  · rw [hr _ (by omega)]; omega
theorem heard_own {S : List Int} (h : Inv 60 (st S)) (hS : S.length = 4608) {a b : Nat} (ha : a < 16) (hb : b < 16) {p : Nat} (hp : mine a p) : S.getD (a * 288 + p) 0 = (joinL (seg S (a * 288) 288) (seg S (b * 288) 288)).getD p 0 := by
  have la : (seg S (a * 288) 288).length = 288 := seg_length (by omega)
  have lb : (seg S (b * 288) 288).length = 288 := seg_length (by omega)
  have h1 := join_at la lb (mine_lt ha hp)
  rw [st_seg (mine_lt ha hp), st_seg (mine_lt ha hp)] at h1
  have h2 := h.top b a p hb ha hp
  simp only [at_, st] at h1 h2
  omega
theorem heard_row {S : List Int} (h : Inv 60 (st S)) (hS : S.length = 4608) {a b : Nat} (ha : a < 16) (hb : b < 16) : seg S (a * 288 + 32 + a * 16) 16 = seg (joinL (seg S (a * 288) 288) (seg S (b * 288) 288)) (32 + a * 16) 16 := by
  have la : (seg S (a * 288) 288).length = 288 := seg_length (by omega)
  have lb : (seg S (b * 288) 288).length = 288 := seg_length (by omega)
  have lj := joinL_len la lb
  refine ext_get (by rw [seg_length (by omega), seg_length (by omega)]) fun m hm => ?_
  rw [seg_length (by omega)] at hm
  rw [seg_get hm, seg_get hm, show a * 288 + 32 + a * 16 + m = a * 288 + (32 + a * 16 + m) by omega]
  exact heard_own h hS ha hb (.inr (.inr ⟨m, hm, rfl⟩))
theorem yield_eq {ops : Array Oper} {S : World → Prop} {o : Oper} {a : Act} {xs ys : List Int} (h : xs = ys) (hy : YieldsIf Try.prog ops S o (.agg (vals xs).toArray) a) : YieldsIf Try.prog ops S o (.agg (vals ys).toArray) a := h ▸ hy
end Go.Proofs.Ytpbjencigepnfaa
