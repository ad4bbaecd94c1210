/- A contract of rights.vectors. -/
import Derived.Test.YtpbjencigepnfaaVectors
namespace Go.Proofs.Ytpbjencigepnfaa
open Go.ChangeShapes Go.WideShapes Go.ChangeAt Go.RowKit

/-- A part of a kept block yields the same wherever it is kept. -/
theorem yield_part {ops : Array Oper} {S : World → Prop} {o : Oper} {a : Act} {w : World} {l : List (Nat × TypeId × List Int)} (hk : ∀ u, S u → KeepR w l u) (i n : Nat) {ty : TypeId} {d : TypeDesc} (hu : Try.prog.underlying ty = some d) (hd : d.isRow = true) (hs : (Try.prog.info? ty).map (·.size) = some n)
    (hw : Region.wanted o (yielded ops a.tmps) = true) (x : Operand) (ho : o.op = .load ty x) {b off : Nat} {t : TypeId} {R : List Int} (hi : l[i]? = some (b, t, R)) (hx : a.eval x = .pointer (some ⟨b, off, none⟩)) (hr : off + n ≤ R.length) :
    YieldsIf Try.prog ops S o (.agg (vals (seg R off n)).toArray) a :=
  yieldsIf_load_mid hw ty x ho b off hx _ d (fun u h => ((hk u h).get i hi).seg hr) hu hd (by rw [vals_length, seg_length hr]; exact hs)
theorem yield_all {ops : Array Oper} {S : World → Prop} {o : Oper} {a : Act} {w : World} {l : List (Nat × TypeId × List Int)} (hk : ∀ u, S u → KeepR w l u) (i n : Nat) {ty : TypeId} {d : TypeDesc} (hu : Try.prog.underlying ty = some d) (hd : d.isRow = true) (hs : (Try.prog.info? ty).map (·.size) = some n)
    (hw : Region.wanted o (yielded ops a.tmps) = true) (x : Operand) (ho : o.op = .load ty x) {b : Nat} {t : TypeId} {R : List Int} (hi : l[i]? = some (b, t, R)) (hx : a.eval x = .pointer (some ⟨b, 0, none⟩)) (hr : R.length = n) :
    YieldsIf Try.prog ops S o (.agg (vals R).toArray) a := by
  have h := yield_part (ops := ops) (S := S) hk i n hu hd hs hw x ho hi hx (by omega)
  rwa [seg_all hr] at h
theorem wp_buildv2 {o : Oper} {a : Act} {w u : World} {l : List (Nat × TypeId × List Int)} {K : Act → World → Prop} {Q : Exit → Act → World → Prop} (hk : KeepR w l u) (x y : Operand) (ho : o.op = .buildSlice 46 2 #[(0, x), (1, y)]) {xs ys : List Int} (hx : a.eval x = .agg (vals xs).toArray) (hy : a.eval y = .agg (vals ys).toArray) (lx : xs.length = 16) (ly : ys.length = 16)
    (h : ∀ b u', KeepR w ((b, 23, splice (splice (zer 32) 0 xs) 16 ys) :: l) u' → Below u.heap.size u u' → K (a.put o.dst (.slice (some ⟨b, 0, none⟩) 2 2)) u') : o.wp Try.prog a u K Q := by
  unfold Oper.wp execOp
  simp only [ho, List.map_toArray, List.map_cons, List.map_nil, hx, hy, Sem.run_bind, Sem.run_pure, Result.andThen_ok, run_buildv2 xs ys lx ly]
  exact h _ _ (hk.new rfl) (box u _ _).2
theorem KeepR.grownE {w u u' : World} {l : List (Nat × TypeId × List Int)} (h : KeepR w l u) {e : TypeId} {s : Nat} {v : Value} {n : Nat} {xs : List Value} (ho : u.ownsRow w.heap.size e s v n xs) (ht : ∀ x ∈ l, x.2.1 ≠ e) (hg : u.grownBy u' v.ownBlock) : KeepR w l u' := by
  refine ⟨h.bel.grown hg h.bel.size (own_base ho), fun x hx => ⟨(h.blk x hx).1, ?_⟩, h.apart⟩
  have hb := (h.blk x hx).2
  refine (hg.block x.1 hb.lt fun e => ?_).trans hb
  rcases ho.2 with ⟨rfl, _⟩ | ⟨g, cap, cur, rfl, _, h3, _⟩
  · simp [Value.ownBlock] at e
  · simp only [Value.ownBlock, Option.some.injEq] at e
    unfold Blk at hb
    rw [e, h3] at hb
    injection hb with hb
    injection hb with _ hb
    exact ht x hx hb.symm
/-- A row of vectors that grew by a part of a kept block. -/
theorem append_vecs {w u : World} {b1 b : Nat} {t : TypeId} {xs R : List Int} {o n m : Nat} (h1 : Blk u b1 23 xs) (hb : w.heap.size ≤ b1) (hx : xs.length = n * 16) (hR : Blk u b t R) (hr : o + m * 16 ≤ R.length) (hn : n + m ≤ 1000) (hbase : w.heap.size ≤ u.heap.size) (c : Nat) (ty : TypeId) :
    ∃ v' u', (Builtin.append_ #[46, 46] ty #[.slice (some ⟨b1, 0, none⟩) n n, .slice (some ⟨b, o, none⟩) m c]).run Try.prog u = .ok v' u' ∧ u'.ownsRow w.heap.size 23 16 v' (n + m) (vals (xs ++ seg R o (m * 16))) ∧ u.grownBy u' (some b1) ∧ u.ownsRow w.heap.size 23 16 (.slice (some ⟨b1, 0, none⟩) n n) n (vals xs) := by
  obtain ⟨i0, hi0, hz0, hz1, hz2⟩ := info_parts vec_info3
  have ho : u.ownsRow w.heap.size 23 16 (.slice (some ⟨b1, 0, none⟩) n n) n (vals xs) :=
    ⟨by rw [vals_length, hx], .inr ⟨b1, n, _, rfl, hb, h1, Nat.le_refl _, by simp only [maxLen]; omega, by simp [vals_length, hx], by simp [vals_length, hx, List.take_of_length_le]⟩⟩
  obtain ⟨v', u', h2, h3, h4, _, _⟩ := run_append_own_at (P := Try.prog) u w.heap.size 46 ty 23 i0 (.agg (vals (zer 16)).toArray) 16 128 Try.underlying46 hi0 hz0 hz1 hz2 rfl (by omega)
    _ n (vals xs) ho ⟨b, o, none⟩ m c (vals (seg R o (m * 16))) (by rw [vals_length, seg_length hr])
    (fun j v hv => by rw [Addr.add_mid]; exact hR.seg hr j v hv) (vals_one _) (by simp only [maxLen]; omega) (by omega) hbase
  exact ⟨v', u', h2, by rw [vals_append]; exact h3, h4, ho⟩
theorem own_range {w : World} {base : Nat} {e : TypeId} {v : Value} {n : Nat} {xs : List Int} (h : w.ownsRow base e 16 v n (vals xs)) (hn : 0 < n) : ∃ b c, v = .slice (some ⟨b, 0, none⟩) n c ∧ base ≤ b ∧ w.rangeAt b 0 (vals xs) := by
  rcases h.2 with ⟨_, h0⟩ | ⟨g, cap, cur, rfl, h2, _⟩
  · omega
  · refine ⟨g, cap, rfl, h2, fun j v hv => ?_⟩
    have hj : j < n * 16 := by rw [← h.1]; exact (List.getElem?_eq_some_iff.1 hv).1
    rw [Nat.zero_add, h.cellAt j hj]; exact hv
theorem range_seg {w : World} {b : Nat} {R : List Int} (h : w.rangeAt b 0 (vals R)) {o n : Nat} (hr : o + n ≤ R.length) : w.rangeAt b o (vals (seg R o n)) := fun j v hv => by
  obtain ⟨hj, rfl⟩ := vals_at hv
  rw [seg_length hr] at hj
  have := h (o + j) (.int .i64 (R.getD (o + j) 0)) (vals_get (by omega))
  rw [Nat.zero_add] at this
  rw [this, seg_get hj]
theorem two_segs {R : List Int} (hR : R.length = 288) : splice (splice (zer 32) 0 (seg R 0 16)) 16 (seg R 16 16) ++ seg R 32 (16 * 16) = R := by
  have l1 : (seg R 0 16).length = 16 := seg_length (by omega)
  have l2 : (seg R 16 16).length = 16 := seg_length (by omega)
  have l3 : (seg R 32 (16 * 16)).length = 256 := seg_length (by omega)
  have l4 : (splice (splice (zer 32) 0 (seg R 0 16)) 16 (seg R 16 16)).length = 32 := by rw [splice_length, splice_length, zer_length]
  refine ext_get (by rw [List.length_append, l4, l3, hR]) fun k hk => ?_
  rw [List.length_append, l4, l3] at hk
  by_cases h1 : k < 32
  · rw [List.getD, List.getElem?_append_left (by omega), ← List.getD, splice_get _ _ _ _ (by rw [splice_length, zer_length]; omega), splice_get _ _ _ _ (by rw [zer_length]; omega), l1, l2]
    by_cases h2 : k < 16
    · rw [if_neg (by omega), if_pos (by omega), seg_get (by omega)]; congr 1; omega
    · rw [if_pos (by omega), seg_get (by omega)]; congr 1; omega
  · rw [List.getD, List.getElem?_append_right (by omega), ← List.getD, l4, seg_get (by omega)]; congr 1; omega

set_option maxHeartbeats 1000000 in
theorem vectors_any (R : List Int) (hR : R.length = 288) (w : World) :
    Calls Try.prog 34 #[.agg (vals R).toArray] w fun e w' => ∃ b c, e = .returned (.slice (some ⟨b, 0, none⟩) 18 c) ∧ w'.rangeAt b 0 (vals R) ∧ Below w.heap.size w w' := by
  have H2 := Lib.hid (two_segs hR)
  have HR := Lib.hid hR; clear hR
  have HK := Lib.hid (KeepR.start w)
  go_enter Try.func34, Try.ntmps34
  go_wp2_with (first
    | (with_reducible refine box_new HK.out rfl _ rfl rfl ?_; intro b u hk hb; clear hb; clear HK; have HK := Lib.hid hk; clear hk))
  refine Draws.start (S := fun u => KeepR w [(b, 26, R)] u) (n := 9) 9 rfl (by kernel_rfl) ?_
  have HS := Lib.hid ((HK.out.drew : (fun u => KeepR w [(b, 26, R)] u) _))
  refine Draws.take 0 (v := ?v0) HS.out rfl (by kernel_rfl) (fun _ _ _ h => h) (Or.inl ⟨rfl, ?h0⟩) ?r0
  case h0 => intro w' hw'; go_simp; (try with_reducible rfl)
  (try simp only [Act.put, List.setIfInBounds_toArray, List.set_cons_zero, List.set_cons_succ])
  refine Draws.take 1 HS.out rfl (by kernel_rfl) (fun _ _ _ h => h) (yield_part (fun _ h => h) 0 16 Try.underlying23 rfl vec_info rfl _ rfl rfl rfl (by have := HR.out; omega)) ?_
  (try simp only [Act.put, List.setIfInBounds_toArray, List.set_cons_zero, List.set_cons_succ])
  refine Draws.take 2 (v := ?v2) HS.out rfl (by kernel_rfl) (fun _ _ _ h => h) (Or.inl ⟨rfl, ?h2⟩) ?r2
  case h2 => intro w' hw'; go_simp; (try with_reducible rfl)
  (try simp only [Act.put, List.setIfInBounds_toArray, List.set_cons_zero, List.set_cons_succ])
  refine Draws.take 3 HS.out rfl (by kernel_rfl) (fun _ _ _ h => h) (yield_part (fun _ h => h) 0 16 Try.underlying23 rfl vec_info rfl _ rfl rfl rfl (by have := HR.out; omega)) ?_
  (try simp only [Act.put, List.setIfInBounds_toArray, List.set_cons_zero, List.set_cons_succ])
  refine Draws.take 5 (v := ?v5) HS.out rfl (by kernel_rfl) (fun _ _ _ h => h) (Or.inl ⟨rfl, ?h5⟩) ?r5
  case h5 => intro w' hw'; go_simp; (try with_reducible rfl)
  (try simp only [Act.put, List.setIfInBounds_toArray, List.set_cons_zero, List.set_cons_succ])
  refine Draws.take 6 (v := ?v6) HS.out rfl (by kernel_rfl) (fun _ _ _ h => h) (Or.inl ⟨rfl, ?h6⟩) ?r6
  case h6 => intro w' hw'; go_simp; (try with_reducible rfl)
  (try simp only [Act.put, List.setIfInBounds_toArray, List.set_cons_zero, List.set_cons_succ])
  refine Draws.does 4 rfl (by kernel_rfl) rfl (fun K hK => ?_)
  refine wp_buildv2 HS.out _ _ rfl rfl rfl (seg_length (by have := HR.out; omega)) (seg_length (by have := HR.out; omega)) ?_
  intro b1 u hk hb
  have HX := Lib.hid hk
  refine hK.out _ _ (fun _ => hk.tail) ?_
  clear hK K
  have hs : (fun u => KeepR w [(b, 26, R)] u) u := hk.tail
  clear HS
  have HS := Lib.hid hs; clear hs
  (try simp only [Act.put, List.setIfInBounds_toArray, List.set_cons_zero, List.set_cons_succ])
  clear hk hb
  obtain ⟨v', u', h1, h2, h3, h4⟩ := append_vecs (w := w) (o := 32) (n := 2) (m := 16) (HX.out.get 0 rfl) (HX.out.blk _ (List.mem_cons_self ..)).1 (by rw [splice_length, splice_length, zer_length]) (HX.out.get 1 rfl) (by have := HR.out; omega) (by omega) HX.out.bel.size 16 46
  have hk := HS.out.grownE h4 (by simp) h3
  rw [H2.out] at h2
  have HA := Lib.hid h1; have HO := Lib.hid h2
  clear h1 h2 h3 h4 HX
  refine Draws.does 7 rfl (by kernel_rfl) rfl (fun K hK => ?_)
  refine Lib.wp_append_run _ _ _ _ _ rfl _ _ rfl rfl _ _ HA.out ?_
  refine hK.out _ _ (fun _ => hk) ?_
  clear hK K
  have hs : (fun u => KeepR w [(b, 26, R)] u) u' := hk
  clear HS
  have HS := Lib.hid hs; clear hs
  (try simp only [Act.put, List.setIfInBounds_toArray, List.set_cons_zero, List.set_cons_succ])
  clear hk
  refine Draws.take 8 (v := ?v8) HS.out rfl (by kernel_rfl) (fun _ _ _ h => h) (Or.inl ⟨rfl, ?h8⟩) ?r8
  case h8 => intro w' hw'; go_simp; (try with_reducible rfl)
  (try simp only [Act.put, List.setIfInBounds_toArray, List.set_cons_zero, List.set_cons_succ])
  refine Draws.done (by kernel_rfl) ?_
  go_wp2
  go_ret
  obtain ⟨b2, c, hv, _, hrg⟩ := own_range HO.out (by omega)
  exact ⟨b2, ⟨c, congrArg Ending.returned hv⟩, hrg, HS.out.bel⟩

/-- A row of vectors. -/
structure RowAt (u : World) (b : Nat) (R : List Int) : Prop where
  rng : u.rangeAt b 0 (vals R)
  lt : b < u.heap.size
theorem row_at {u : World} {b : Nat} {R : List Int} (h : u.rangeAt b 0 (vals R)) (hR : R.length = 288) : RowAt u b R :=
  ⟨h, cell_lt (a := ⟨b, 0 + 0, none⟩) (h 0 _ (vals_get (by omega)))⟩
theorem RowAt.call {u u' : World} {b : Nat} {R : List Int} (h : RowAt u b R) (hb : Below u.heap.size u u') : RowAt u' b R := ⟨range_below h.rng hb h.lt, Nat.lt_of_lt_of_le h.lt hb.size⟩
theorem RowAt.drew {u : World} {b : Nat} {R : List Int} (h : RowAt u b R) : RowAt u.drew b R := ⟨h.rng, h.lt⟩
theorem RowAt.other {u u' : World} {b b' : Nat} {R : List Int} (h : RowAt u b R) (hs : ∀ k, k ≠ b' → u'.heap[k]? = u.heap[k]?) (hne : b ≠ b') : RowAt u' b R := by
  have e := hs b hne
  refine ⟨fun j v hv => ?_, ?_⟩
  · have := h.rng j v hv
    simp only [World.cell?, e] at this ⊢
    exact this
  · have h1 := h.lt
    rcases Nat.lt_or_ge b u'.heap.size with h2 | h2
    · exact h2
    · rw [Array.getElem?_eq_none h2, Array.getElem?_eq_getElem h1] at e; cases e
theorem load_row {ops : Array Oper} {rest : List Oper} {o : Oper} {a : Act} {u : World} {Q : Exit → Act → World → Prop} {b : Nat} {R : List Int} (hk : RowAt u b R) (hgd : o.guard = none) (x : Operand) (ho : o.op = .load 23 x) {off : Nat} (hx : a.eval x = .pointer (some ⟨b, off, none⟩)) (hr : off + 16 ≤ R.length)
    (h : wpList Try.prog ops Q rest (a.put o.dst (.agg (vals (seg R off 16)).toArray)) u) : wpList Try.prog ops Q (o :: rest) a u :=
  wpList_load_mid hgd _ x ho b off hx _ _ (range_seg hk.rng hr) Try.underlying23 rfl (by rw [vals_length, seg_length hr]; exact vec_info) h
theorem yield_row {ops : Array Oper} {S : World → Prop} {o : Oper} {a : Act} {b : Nat} {R : List Int} (hk : ∀ u, S u → RowAt u b R) (hw : Region.wanted o (yielded ops a.tmps) = true) (x : Operand) (ho : o.op = .load 23 x) {off : Nat} (hx : a.eval x = .pointer (some ⟨b, off, none⟩)) (hr : off + 16 ≤ R.length) :
    YieldsIf Try.prog ops S o (.agg (vals (seg R off 16)).toArray) a :=
  yieldsIf_load_mid hw _ x ho b off hx _ _ (fun u h => range_seg (hk u h).rng hr) Try.underlying23 rfl (by rw [vals_length, seg_length hr]; exact vec_info)
end Go.Proofs.Ytpbjencigepnfaa
