/- Contracts of rights.Join and its closure. -/
import Derived.Test.YtpbjencigepnfaaOver
namespace Go.Proofs.Ytpbjencigepnfaa
open Go.ChangeShapes Go.WideShapes Go.ChangeAt Go.RowKit

theorem joinL_len {R T : List Int} {n : Nat} (hR : R.length = n) (hT : T.length = n) : (joinL R T).length = n := by simp [joinL, hR, hT]
theorem seg_join {R T : List Int} {o n : Nat} (hR : o + n ≤ R.length) (hT : o + n ≤ T.length) : joinL (seg R o n) (seg T o n) = seg (joinL R T) o n := by
  have hJ : o + n ≤ (joinL R T).length := by simp [joinL]; omega
  refine ext_get (by rw [joinL_len (seg_length hR) (seg_length hT), seg_length hJ]) fun k hk => ?_
  rw [joinL_len (seg_length hR) (seg_length hT)] at hk
  rw [joinL_get (by rw [seg_length hR]; exact hk) (by rw [seg_length hT]; exact hk), seg_get hk, seg_get hk, seg_get hk, joinL_get (by omega) (by omega)]
theorem mix_at {J R : List Int} (h : J.length = R.length) (m i : Nat) (hi : i < R.length) : (mix m J R).getD i 0 = if i < m then J.getD i 0 else R.getD i 0 := by
  simp only [mix, List.getD, List.getElem?_append, List.length_take, List.getElem?_take, List.getElem?_drop]
  by_cases h1 : i < m
  · simp [h1, show i < min m J.length by omega]
  · by_cases h2 : m ≤ J.length
    · simp [h1, show ¬ i < min m J.length by omega, show m + (i - min m J.length) = i by omega]
    · omega
theorem mix_rest {J R : List Int} (h : J.length = R.length) {m n : Nat} (hm : m + n ≤ R.length) : seg (mix m J R) m n = seg R m n := by
  refine ext_get (by rw [seg_length (by rw [mix_length h]; exact hm), seg_length hm]) fun k hk => ?_
  rw [seg_length (by rw [mix_length h]; exact hm)] at hk
  rw [seg_get hk, seg_get hk, mix_at h _ _ (by omega), if_neg (by omega)]
theorem mix_splice {J R : List Int} (h : J.length = R.length) {m n : Nat} (hm : m + n ≤ R.length) : splice (mix m J R) m (seg J m n) = mix (m + n) J R := by
  have hl : (seg J m n).length = n := seg_length (by omega)
  refine ext_get (by rw [splice_length, mix_length h, mix_length h]) fun k hk => ?_
  rw [splice_length, mix_length h] at hk
  rw [splice_get _ _ _ _ (by rw [hl, mix_length h]; exact hm), hl, mix_at h _ _ hk, mix_at h _ _ hk]
  by_cases h1 : k < m
  · rw [if_neg (by omega), if_pos h1, if_pos (by omega)]
  · by_cases h2 : k < m + n
    · rw [if_pos (by omega), if_pos h2, seg_get (by omega)]; congr 1; omega
    · rw [if_neg (by omega), if_neg h1, if_neg h2]

set_option maxHeartbeats 1000000 in
theorem join1_any (b off : Nat) (t : TypeId) (A ys : List Int) (hA : off + 16 ≤ A.length) (hy : ys.length = 16) (w : World) (hB : Blk w b t A) :
    Calls Try.prog 41 #[.pointer (some ⟨b, off, none⟩), .agg (vals ys).toArray] w fun e w' => e = .returned (.tuple #[]) ∧ ∃ u, Below w.heap.size w u ∧ w' = u.setCells b off (vals (joinL (seg A off 16) ys)) := by
  have HJ := Lib.hid (joinL_len (n := 16) (seg_length hA) hy)
  have HL := Lib.hid (seg_length hA)
  have HY := Lib.hid hy; have HA := Lib.hid hA; have HB := Lib.hid hB
  clear hy hA hB
  have HK := Lib.hid (KeepR.start w)
  go_enter Try.func41, Try.ntmps41
  go_wp2_with (first
    | (with_reducible refine box_new HK.out rfl _ rfl rfl ?_; intro b3 u hk hb; clear hb; clear HK; have HK := Lib.hid hk; clear hk))
  refine Draws.start (S := fun u => KeepR w [(b3, 23, ys)] u) (n := 7) 8 rfl (by kernel_rfl) ?_
  have HS := Lib.hid ((HK.out.drew : (fun u => KeepR w [(b3, 23, ys)] u) _))
  refine Draws.take 0 (v := ?v0) HS.out rfl (by kernel_rfl) (fun _ _ _ h => h) (Or.inl ⟨rfl, ?h0⟩) ?r0
  case h0 => intro w' hw'; go_simp; (try with_reducible rfl)
  (try simp only [Act.put, List.setIfInBounds_toArray, List.set_cons_zero, List.set_cons_succ])
  refine Draws.take 1 (v := ?v1) HS.out rfl (by kernel_rfl) (fun _ _ _ h => h) (Or.inl ⟨rfl, ?h1⟩) ?r1
  case h1 => intro w' hw'; go_simp; (try with_reducible rfl)
  (try simp only [Act.put, List.setIfInBounds_toArray, List.set_cons_zero, List.set_cons_succ])
  refine Draws.take 2 (v := ?v2) HS.out rfl (by kernel_rfl) (fun _ _ _ h => h) (Or.inl ⟨rfl, ?h2⟩) ?r2
  case h2 => intro w' hw'; go_simp; (try with_reducible rfl)
  (try simp only [Act.put, List.setIfInBounds_toArray, List.set_cons_zero, List.set_cons_succ])
  refine Draws.take 3 HS.out rfl (by kernel_rfl) (fun _ _ _ h => h) (yieldsIf_load_mid rfl _ _ rfl _ _ rfl (vals (seg A off 16)) _ (fun u h => (HB.out.below h.bel HB.out.lt).seg HA.out) Try.underlying23 rfl (by rw [vals_length, HL.out]; exact vec_info)) ?_
  (try simp only [Act.put, List.setIfInBounds_toArray, List.set_cons_zero, List.set_cons_succ])
  refine Draws.take 4 HS.out rfl (by kernel_rfl) (fun _ _ _ h => h) (yield_all (fun _ h => h) 0 16 Try.underlying23 rfl vec_info rfl _ rfl rfl rfl HY.out) ?_
  (try simp only [Act.put, List.setIfInBounds_toArray, List.set_cons_zero, List.set_cons_succ])
  refine Draws.does 5 rfl (by kernel_rfl) rfl (fun K hK => ?_)
  go_simp
  go_at_call 42
  refine (join_any (seg A off 16) ys HL.out HY.out _).mono ?_
  rintro e u ⟨rfl, hb⟩
  (try dsimp only)
  refine hK.out _ _ (fun _ => HS.out.call hb) ?_
  clear hK K
  have hs : (fun u => KeepR w [(b3, 23, ys)] u) u := HS.out.call hb
  clear HS
  have HS := Lib.hid hs; clear hs
  (try simp only [Act.put, List.setIfInBounds_toArray, List.set_cons_zero, List.set_cons_succ])
  clear hb
  refine Draws.take 6 (v := ?v6) HS.out rfl (by kernel_rfl) (fun _ _ _ h => h) (Or.inl ⟨rfl, ?h6⟩) ?r6
  case h6 => intro w' hw'; go_simp; (try with_reducible rfl)
  (try simp only [Act.put, List.setIfInBounds_toArray, List.set_cons_zero, List.set_cons_succ])
  refine Draws.does 7 rfl (by kernel_rfl) rfl (fun K hK => ?_)
  refine wp_store_mid _ _ _ rfl _ _ _ rfl rfl (by simp only [List.size_toArray, vals_length, HJ.out]; exact (HB.out.below HS.out.bel HB.out.lt).thereAt HA.out) (by simp only [List.size_toArray, vals_length, HJ.out]; exact vec_info) (vals_all _) ?_
  refine hK.out _ _ (fun h => absurd h (by omega)) ?_
  clear hK K
  (try simp only [Act.put])
  refine Draws.done (by kernel_rfl) ?_
  go_wp2_with fail
  go_end0
  exact ⟨rfl, _, HS.out.bel, rfl⟩
end Go.Proofs.Ytpbjencigepnfaa
