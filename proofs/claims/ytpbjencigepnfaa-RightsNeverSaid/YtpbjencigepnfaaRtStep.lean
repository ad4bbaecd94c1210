/- What a step of a replica does to what holds of all of them. No walk. -/
import Derived.Test.YtpbjencigepnfaaRtInv
import Derived.Test.YtpbjencigepnfaaRtMove
import Derived.Test.YtpbjencigepnfaaRtTurn
namespace Go.Proofs.Ytpbjencigepnfaa
open Go.ChangeShapes Go.WideShapes Go.ChangeAt Go.RowKit

/-- What the replicas know, out of one list. -/
def st (S : List Int) : Nat → Nat → Int := fun a p => S.getD (a * 288 + p) 0
theorem st_seg {S : List Int} {a p : Nat} (hp : p < 288) : at_ (seg S (a * 288) 288) p = st S a p := by
  simp only [at_, st]; rw [seg_get hp]
theorem st_splice {S R : List Int} {a : Nat} (hS : S.length = 4608) (hR : R.length = 288) (ha : a < 16) {b p : Nat} (_hb : b < 16) (hp : p < 288) : st (splice S (a * 288) R) b p = upd (st S) a (at_ R) b p := by
  simp only [st, upd]
  rw [splice_get _ _ _ _ (by omega), hR]
  by_cases h : b = a
  · subst h
    rw [if_pos (by omega), if_pos rfl]
    simp only [at_]; congr 1; omega
  · rw [if_neg (by omega), if_neg h]; rfl
theorem Inv.store {t : Nat} {S R : List Int} {a : Nat} (hS : S.length = 4608) (hR : R.length = 288) (ha : a < 16) (h : Inv t (upd (st S) a (at_ R))) : Inv t (st (splice S (a * 288) R)) :=
  h.congr fun _ _ hb hp => st_splice hS hR ha hb hp
theorem V_congr {f g : Nat → Int} (h : ∀ p, p < 288 → f p = g p) {k : Nat} (hk : k < 16) : V f k = V g k := by
  unfold V
  rw [h k (by omega), h (16 + k) (by omega), sumF_congr (f := fun m => f (32 + m * 16 + k)) (g := fun m => g (32 + m * 16 + k)) (fun i hi => h _ (by omega)),
    sumF_congr (f := fun m => f (32 + k * 16 + m)) (g := fun m => g (32 + k * 16 + m)) (fun i hi => h _ (by omega))]
/-- What is free in a state that the replicas know can be told. -/
theorem Inv.told {t : Nat} {S : List Int} (h : Inv t (st S)) (ht : t ≤ 60) (hS : S.length = 4608) {a k : Nat} (ha : a < 16) (hk : k < 16) : freeE (seg S (a * 288) 288) k = 0 ∧ freeN (seg S (a * 288) 288) k = V (st S a) k := by
  have hl : (seg S (a * 288) 288).length = 288 := seg_length (by omega)
  have hb : ∀ i, i < 288 → 0 ≤ (seg S (a * 288) 288).getD i 0 ∧ (seg S (a * 288) 288).getD i 0 ≤ 60000 := fun i hi => by
    have h1 := h.pos a i ha hi
    rw [seg_get hi]
    simp only [st] at h1
    omega
  obtain ⟨e1, e2⟩ := free_small hl hb (by omega) hk
  exact ⟨e1, by rw [e2]; exact V_congr (fun p hp => st_seg hp) hk⟩

theorem step_give {t : Nat} {S : List Int} (h : Inv t (st S)) (hS : S.length = 4608) {a : Nat} (ha : a < 16) {n : Int} (hn : n ≤ 1000) (he : grE (seg S (a * 288) 288) 0 a n = 0) : Inv (t + 1) (st (splice S (a * 288) (grA (seg S (a * 288) 288) 0 a n))) := by
  have hl : (seg S (a * 288) 288).length = 288 := seg_length (by omega)
  refine Inv.store hS (grA_length hl _ _ _) ha ?_
  obtain ⟨k, hk, hk16, hn0, _, _, e⟩ := give_is hl he
  obtain rfl : a = k := by omega
  rw [e]
  have hset : ∀ p, p < 288 → at_ ((seg S (a * 288) 288).set a ((seg S (a * 288) 288).getD a 0 + n)) p = if p = a then st S a a + n else st S a p := fun p hp => by
    rw [at_set (by omega), st_seg hp]
    split
    · rw [show (seg S (a * 288) 288).getD a 0 = st S a a from st_seg (by omega)]
    · rfl
  refine h.own ha (.inl rfl : mine a a) (fun p hp hne => by rw [hset p hp, if_neg hne]) (by rw [hset a (by omega), if_pos rfl]; omega) (by rw [hset a (by omega), if_pos rfl]; omega) fun k hk => ?_
  rw [V_give (f := st S a) ha (fun p hp hne => by rw [hset p hp, if_neg hne]) hk, hset a (by omega), if_pos rfl]
  have := h.free a k ha hk
  split <;> omega
theorem step_use {t : Nat} {S : List Int} (h : Inv t (st S)) (ht : t ≤ 60) (hS : S.length = 4608) {a : Nat} (ha : a < 16) {n : Int} (hn : n ≤ 1000) (he : useE (seg S (a * 288) 288) a n = 0) : Inv (t + 1) (st (splice S (a * 288) (useA (seg S (a * 288) 288) a n))) := by
  have hl : (seg S (a * 288) 288).length = 288 := seg_length (by omega)
  refine Inv.store hS (useA_length hl _ _) ha ?_
  obtain ⟨k, hk, hk16, hn0, _, _, e⟩ := use_is hl he
  obtain rfl : a = k := by omega
  obtain ⟨f1, f2⟩ := h.told ht hS ha ha
  have hfree : n ≤ V (st S a) a := by
    by_cases hp : preU (seg S (a * 288) 288) a n = 0
    · unfold preU at hp
      rw [if_pos ⟨repB_iff.2 (by omega), hn0⟩] at hp
      unfold coverE at hp
      split at hp
      · omega
      · rename_i hc
        rw [f1, f2] at hc
        have : ¬ V (st S a) a < n := fun h2 => hc ⟨rfl, h2⟩
        omega
    · simp [useE, hp] at he
  rw [e]
  have hset : ∀ p, p < 288 → at_ ((seg S (a * 288) 288).set (16 + a) ((seg S (a * 288) 288).getD (16 + a) 0 + n)) p = if p = 16 + a then st S a (16 + a) + n else st S a p := fun p hp => by
    rw [at_set (by omega), st_seg hp]
    split
    · rw [show (seg S (a * 288) 288).getD (16 + a) 0 = st S a (16 + a) from st_seg (by omega)]
    · rfl
  refine h.own ha (.inr (.inl rfl) : mine a (16 + a)) (fun p hp hne => by rw [hset p hp, if_neg hne]) (by rw [hset _ (by omega), if_pos rfl]; omega) (by rw [hset _ (by omega), if_pos rfl]; omega) fun k hk => ?_
  rw [V_use (f := st S a) ha (fun p hp hne => by rw [hset p hp, if_neg hne]) hk, hset _ (by omega), if_pos rfl]
  have := h.free a k ha hk
  split
  · subst_vars; omega
  · omega
theorem step_move {t : Nat} {S : List Int} (h : Inv t (st S)) (ht : t ≤ 60) (hS : S.length = 4608) {a : Nat} (ha : a < 16) {k n : Int} (hn : n ≤ 1000) (he : moveE (seg S (a * 288) 288) a k n = 0) : Inv (t + 1) (st (splice S (a * 288) (moveA (seg S (a * 288) 288) a k n))) := by
  have hl : (seg S (a * 288) 288).length = 288 := seg_length (by omega)
  refine Inv.store hS (moveA_length hl _ _ _) ha ?_
  obtain ⟨i, k', hi, rfl, hi16, hk16, hne, hn0, hnf, e⟩ := move_is hl he
  obtain rfl : a = i := by omega
  obtain ⟨f1, f2⟩ := h.told ht hS ha ha
  rw [f2] at hnf
  rw [e]
  have hset : ∀ p, p < 288 → at_ ((seg S (a * 288) 288).set (32 + a * 16 + k') ((seg S (a * 288) 288).getD (32 + a * 16 + k') 0 + n)) p = if p = 32 + a * 16 + k' then st S a (32 + a * 16 + k') + n else st S a p := fun p hp => by
    rw [at_set (by omega), st_seg hp]
    split
    · rw [show (seg S (a * 288) 288).getD (32 + a * 16 + k') 0 = st S a (32 + a * 16 + k') from st_seg (by omega)]
    · rfl
  refine h.own ha (.inr (.inr ⟨k', hk16, rfl⟩) : mine a (32 + a * 16 + k')) (fun p hp hne => by rw [hset p hp, if_neg hne]) (by rw [hset _ (by omega), if_pos rfl]; omega) (by rw [hset _ (by omega), if_pos rfl]; omega) fun k hk => ?_
  rw [V_move (f := st S a) ha hk16 hne (fun p hp hne => by rw [hset p hp, if_neg hne]) hk, hset _ (by omega), if_pos rfl]
  have h1 := h.free a k ha hk
  by_cases e1 : k = k'
  · subst e1
    rw [if_pos rfl, if_neg (Ne.symm hne)]; omega
  · rw [if_neg e1]
    by_cases e2 : k = a
    · subst e2
      rw [if_pos rfl]; omega
    · rw [if_neg e2]; omega
theorem join_at {R T : List Int} (hR : R.length = 288) (hT : T.length = 288) {p : Nat} (hp : p < 288) : at_ (joinL R T) p = max (at_ R p) (at_ T p) := joinL_get (by omega) (by omega)
theorem step_hear {t : Nat} {S : List Int} (h : Inv t (st S)) (hS : S.length = 4608) {a b : Nat} (ha : a < 16) (hb : b < 16) : Inv (t + 1) (st (splice S (a * 288) (joinL (seg S (a * 288) 288) (seg S (b * 288) 288)))) := by
  have hl : (seg S (a * 288) 288).length = 288 := seg_length (by omega)
  have hl2 : (seg S (b * 288) 288).length = 288 := seg_length (by omega)
  refine Inv.store hS (by simp [joinL, hl, hl2]) ha ?_
  exact h.hear ha hb fun p hp => by rw [join_at hl hl2 hp, st_seg hp, st_seg hp]
theorem step_same {t : Nat} {S : List Int} (h : Inv t (st S)) (hS : S.length = 4608) {a : Nat} (ha : a < 16) : Inv (t + 1) (st (splice S (a * 288) (seg S (a * 288) 288))) := by
  have hl : (seg S (a * 288) 288).length = 288 := seg_length (by omega)
  refine Inv.store hS hl ha ?_
  refine (h.later (Nat.le_succ t)).congr fun b p hb hp => ?_
  unfold upd
  split
  · subst_vars; exact st_seg hp
  · rfl
theorem st_zero : Inv 0 (st (zer 4608)) := Inv.start.congr fun _a _p _ _ => zer_get _ _
end Go.Proofs.Ytpbjencigepnfaa
