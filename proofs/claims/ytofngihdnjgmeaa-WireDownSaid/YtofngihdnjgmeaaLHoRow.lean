/- Rows of holds: what append does to one, and what a literal and a slice expression make. -/
import Derived.Test.YtofngihdnjgmeaaLHoDo
import Derived.Maps.AppendAt
import Derived.OwnWalk
import Derived.Laws.OwnMore
namespace Go.Proofs.Ytofngihdnjgmeaa
set_option maxRecDepth 100000
open Go.ChangeShapes Go.WideShapes Go.ChangeAt Go.RowKit

theorem h_info3 : (Try.prog.info? 59).map (fun i => (i.zero, i.size, i.bytes)) = some (some (.agg (vals (zer 5)).toArray), 5, 40) := by kernel_rfl
theorem i_info3 : (Try.prog.info? 3).map (fun i => (i.zero, i.size, i.bytes)) = some (some (.int .i64 0), 1, 8) := by kernel_rfl
theorem vals_appendH (xs ys : List Int) : vals (xs ++ ys) = vals xs ++ vals ys := by simp [vals]
theorem append_hos (w : World) (base : Nat) (ty : TypeId) (v : Value) (xs : List Ho) (hown : Own w base v xs) (A : Option Addr) (m c : Nat) (zs : List Ho) (hr : Row w A m zs) (h63 : xs.length + m ≤ 2000) (hbase : base ≤ w.heap.size) :
    ∃ v' w', (Builtin.append_ #[31, 31] ty #[v, .slice A m c]).run Try.prog w = .ok v' w' ∧ Own w' base v' (xs ++ zs) ∧ w.grownBy w' v.ownBlock ∧ (v'.ownBlock = v.ownBlock ∨ v'.ownBlock = some w.heap.size) := by
  obtain ⟨i0, hi0, hz0, hz1, hz2⟩ := info_parts h_info3
  obtain ⟨hl, _, hx⟩ := hr
  unfold Own
  rw [List.length_append, hl, flat_append, vals_appendH]
  cases A with
  | none =>
    have hm : m = 0 := by
      rcases hx with h0 | ⟨b, off, h, _⟩
      · exact h0
      · cases h
    subst hm
    have hzs : zs = [] := List.eq_nil_of_length_eq_zero hl
    subst hzs
    refine ⟨v, w, ?_, by rw [show vals (flat []) = [] from rfl, List.append_nil]; exact hown, World.grownBy.refl w _, .inl rfl⟩
    rcases hown.2 with ⟨rfl, h0⟩ | ⟨g, cap, cur, rfl, _, _, hnc, _⟩
    · simp [Builtin.append_, run_underlying Try.underlying31, sizeOf, typeInfo, hi0, Builtin.lenOf, Builtin.firstCells]
    · simp [Builtin.append_, run_underlying Try.underlying31, sizeOf, typeInfo, hi0, Builtin.lenOf, Builtin.firstCells, hnc, storeCells]
  | some ad =>
    obtain ⟨v', w', h1, h2, h3, _, h5⟩ := run_append_own_at (P := Try.prog) w base 31 ty 59 i0 (.agg (vals (zer 5)).toArray) 5 40 Try.underlying31 hi0 hz0 hz1 hz2 rfl (by omega) v xs.length (vals (flat xs)) hown ad m c (vals (flat zs))
      (by rw [vals_length, flat_length, hl])
      (fun j u hu => by
        rcases hx with h0 | ⟨b, off, h, hc⟩
        · obtain ⟨hj, _⟩ := vals_at hu
          rw [flat_length] at hj; omega
        · injection h with h
          subst h
          rw [Go.WideShapes.add_plain]
          exact Row.cells hl hc j u hu)
      (vals_one _) (by simp only [maxLen]; omega) (by omega) hbase
    exact ⟨v', w', h1, h2, h3, h5⟩
theorem wp_append_hos {w u : World} {o : Oper} {a : Act} {K : Act → World → Prop} {Q : Exit → Act → World → Prop} {l : List (Nat × TypeId × List Int)} {v : Value} {xs : List Ho} (hk : KeepH w l v xs u) (s x : Operand)
    (ho : o.op = .call { callee := .builtin .append, args := #[s, x], argTypes := #[31, 31] }) (hs : a.eval s = v)
    (A : Option Addr) (m c : Nat) (zs : List Ho) (hx : a.eval x = .slice A m c) (hr : Row u A m zs) (h63 : xs.length + m ≤ 2000)
    (h : ∀ v' u', KeepH w l v' (xs ++ zs) u' → K (a.put o.dst v') u') : o.wp Try.prog a u K Q := by
  obtain ⟨v', w', hrun, h2, h3, h4⟩ := append_hos u w.heap.size o.type v xs hk.own A m c zs hr h63 hk.keep.bel.size
  unfold Oper.wp execOp
  simp only [ho, resolve, invoke, builtin, Sem.run_bind, Sem.run_pure, Result.andThen_ok, List.map_toArray, List.map_cons, List.map_nil, hs, hx, hrun]
  exact h v' w' (hk.grown h3 h2 h4)
theorem app_hos {w u : World} {ops : Array Oper} {rest : List Oper} {o : Oper} {a : Act} {Q : Exit → Act → World → Prop} {l : List (Nat × TypeId × List Int)} {v : Value} {xs : List Ho} (hk : KeepH w l v xs u) (hgd : o.guard = none) (s x : Operand)
    (ho : o.op = .call { callee := .builtin .append, args := #[s, x], argTypes := #[31, 31] }) (hs : a.eval s = v)
    (A : Option Addr) (m c : Nat) (zs : List Ho) (hx : a.eval x = .slice A m c) (hr : Row u A m zs) (h63 : xs.length + m ≤ 2000)
    (h : ∀ v' u', KeepH w l v' (xs ++ zs) u' → wpList Try.prog ops Q rest (a.put o.dst v') u') : wpList Try.prog ops Q (o :: rest) a u :=
  wpList_plain hgd fun _ hK => wp_append_hos hk s x ho hs A m c zs hx hr h63 fun v' u' h1 => hK _ _ (h v' u' h1)
theorem run_build0 (u : World) : (Instr.buildSlice 31 0 #[]).run Try.prog u = .ok (.slice (some ⟨u.heap.size, 0, none⟩) 0 0) (u.alloc (.cells #[] 59)) := by
  obtain ⟨i0, hi0, hz0, hz1, hz2⟩ := info_parts h_info3
  simp [Instr.buildSlice, run_underlying Try.underlying31, sizeOf, typeInfo, hi0, Instr.fill, newRow, newObj]
  rw [show Array.map (fun _ : Nat => (default : Value)) (Array.range 0) = #[] from by simp]
  rfl
/-- A row with none. -/
theorem build_none {ops : Array Oper} {rest : List Oper} {o : Oper} {a : Act} {w u : World} {l : List (Nat × TypeId × List Int)} {Q : Exit → Act → World → Prop} (hk : KeepR w l u) (hgd : o.guard = none) (ho : o.op = .buildSlice 31 0 #[])
    (h : ∀ v u', KeepH w l v [] u' → wpList Try.prog ops Q rest (a.put o.dst v) u') : wpList Try.prog ops Q (o :: rest) a u :=
  wpList_plain hgd fun K hK => by
    have hb : Below u.heap.size u (u.alloc (.cells #[] 59)) := (Below.refl _ _).alloc (Nat.le_refl _) _
    have ho' : Own (u.alloc (.cells #[] 59)) u.heap.size (.slice (some ⟨u.heap.size, 0, none⟩) 0 0) [] := World.ownsRow_made u #[] 0 (Nat.le_refl _) (Nat.zero_le _) (by simp)
    unfold Oper.wp execOp
    simp only [ho, List.map_toArray, List.map_nil, Sem.run_bind, Sem.run_pure, Result.andThen_ok, run_build0]
    exact hK _ _ (h _ _ ((KeepH.of_keep hk).other hb ho'))
theorem set_five (f : Nat → Value) (v0 v1 v2 v3 v4 : Value) : (((((Array.map f (Array.range 5)).setIfInBounds 0 v0).setIfInBounds 1 v1).setIfInBounds 2 v2).setIfInBounds 3 v3).setIfInBounds 4 v4 = #[v0, v1, v2, v3, v4] := by
  apply Array.ext
  · simp
  · intro i h1 h2
    have : i = 0 ∨ i = 1 ∨ i = 2 ∨ i = 3 ∨ i = 4 := by simp at h2; omega
    rcases this with rfl | rfl | rfl | rfl | rfl <;> simp
theorem run_build1h (h : Ho) (u : World) : (Instr.buildSlice 31 1 #[(0, .agg (vals h.l).toArray)]).run Try.prog u = .ok (.slice (some ⟨u.heap.size, 0, none⟩) 1 1) (u.alloc (.cells (vals h.l).toArray 59)) := by
  obtain ⟨i0, hi0, hz0, hz1, hz2⟩ := info_parts h_info3
  simp [Instr.buildSlice, run_underlying Try.underlying31, sizeOf, typeInfo, zeroValue, hi0, hz0, hz1, Instr.fill, Value.cells, newRow, newObj, vals, Ho.l, set_five]
  rfl
/-- A slice of one. -/
theorem wp_build_one {o : Oper} {a : Act} {w u : World} {l : List (Nat × TypeId × List Int)} {v : Value} {xs : List Ho} {K : Act → World → Prop} {Q : Exit → Act → World → Prop} (hk : KeepH w l v xs u) (x : Operand) (ho : o.op = .buildSlice 31 1 #[(0, x)]) {h : Ho} (hx : a.eval x = .agg (vals h.l).toArray)
    (hh : ∀ b u', KeepH w ((b, 59, h.l) :: l) v xs u' → Below u.heap.size u u' → K (a.put o.dst (.slice (some ⟨b, 0, none⟩) 1 1)) u') : o.wp Try.prog a u K Q := by
  unfold Oper.wp execOp
  simp only [ho, List.map_toArray, List.map_cons, List.map_nil, hx, Sem.run_bind, Sem.run_pure, Result.andThen_ok, run_build1h]
  exact hh _ _ (hk.of_alloc rfl (hk.keep.new rfl) (box u _ _).2) (box u _ _).2
theorem build_one {ops : Array Oper} {rest : List Oper} {o : Oper} {a : Act} {w u : World} {l : List (Nat × TypeId × List Int)} {v : Value} {xs : List Ho} {Q : Exit → Act → World → Prop} (hk : KeepH w l v xs u) (hgd : o.guard = none) (x : Operand) (ho : o.op = .buildSlice 31 1 #[(0, x)]) {h : Ho} (hx : a.eval x = .agg (vals h.l).toArray)
    (hh : ∀ b u', KeepH w ((b, 59, h.l) :: l) v xs u' → Below u.heap.size u u' → wpList Try.prog ops Q rest (a.put o.dst (.slice (some ⟨b, 0, none⟩) 1 1)) u') : wpList Try.prog ops Q (o :: rest) a u :=
  wpList_plain hgd fun _ hK => wp_build_one hk x ho hx fun b u' h1 h2 => hK _ _ (hh b u' h1 h2)
theorem KeepH.one {w u : World} {l : List (Nat × TypeId × List Int)} {v : Value} {hs : List Ho} {b : Nat} {t : TypeId} {h : Ho} (hk : KeepH w ((b, t, h.l) :: l) v hs u) : Row u (some ⟨b, 0, none⟩) 1 [h] :=
  ⟨rfl, by omega, .inr ⟨b, 0, rfl, fun k hk' => by
    have : k = 0 := by omega
    subst this
    exact (hk.keep.get 0 rfl).range⟩⟩
/-- Two numbers. -/
theorem set_pairH (f : Nat → Value) (v v' : Value) : ((Array.map f (Array.range 2)).setIfInBounds 0 v).setIfInBounds 1 v' = #[v, v'] := by
  apply Array.ext
  · simp
  · intro i h1 h2
    have : i = 0 ∨ i = 1 := by simp at h2; omega
    rcases this with rfl | rfl <;> simp
theorem run_pairH (y z : Int) (u : World) : (Instr.buildSlice 97 2 #[(0, .int .i64 y), (1, .int .i64 z)]).run Try.prog u = .ok (.slice (some ⟨u.heap.size, 0, none⟩) 2 2) (u.alloc (.cells (vals [y, z]).toArray 3)) := by
  obtain ⟨i0, hi0, hz0, hz1, hz2⟩ := info_parts i_info3
  simp [Instr.buildSlice, run_underlying Try.underlying97, sizeOf, typeInfo, zeroValue, hi0, hz0, hz1, Instr.fill, Value.cells, newRow, newObj, vals, set_pairH]
  rfl
theorem wp_build_pair {o : Oper} {a : Act} {w u : World} {l : List (Nat × TypeId × List Int)} {K : Act → World → Prop} {Q : Exit → Act → World → Prop} (hk : KeepR w l u) (x x' : Operand) (ho : o.op = .buildSlice 97 2 #[(0, x), (1, x')]) {y z : Int} (hx : a.eval x = .int .i64 y) (hx' : a.eval x' = .int .i64 z)
    (h : ∀ b u', KeepR w ((b, 3, [y, z]) :: l) u' → u'.drawn = u.drawn → K (a.put o.dst (.slice (some ⟨b, 0, none⟩) 2 2)) u') : o.wp Try.prog a u K Q := by
  unfold Oper.wp execOp
  simp only [ho, List.map_toArray, List.map_cons, List.map_nil, hx, hx', Sem.run_bind, Sem.run_pure, Result.andThen_ok, run_pairH]
  exact h _ _ (hk.new rfl) rfl
theorem h_info5 (h : Ho) : (Try.prog.info? 59).map (·.size) = some (vals h.l).length := h_info
/-- A hold that is there. -/
theorem load_hold {ops : Array Oper} {rest : List Oper} {o : Oper} {a : Act} {u : World} {Q : Exit → Act → World → Prop} {b off : Nat} {h : Ho} (hr : u.rangeAt b off (vals h.l)) (x : Operand) (ho : o.op = .load 59 x)
    (hx : a.eval x = .pointer (some ⟨b, off, none⟩)) (hw : Region.wanted o (yielded ops a.tmps) = true) (hh : wpList Try.prog ops Q rest (a.put o.dst (.agg (vals h.l).toArray)) u) : wpList Try.prog ops Q (o :: rest) a u :=
  BigFrame.wpList_want hw fun _ hK => wp_load_mid 59 x ho b off hx _ _ hr Try.underlying59 rfl (h_info5 h) (hK _ _ hh)
theorem yield_hold {ops : Array Oper} {S : World → Prop} {o : Oper} {a : Act} {b off : Nat} {h : Ho} (hr : ∀ u, S u → u.rangeAt b off (vals h.l)) (x : Operand) (ho : o.op = .load 59 x) (hx : a.eval x = .pointer (some ⟨b, off, none⟩)) (hw : Region.wanted o (yielded ops a.tmps) = true) :
    YieldsIf Try.prog ops S o (.agg (vals h.l).toArray) a :=
  yieldsIf_load_mid hw 59 x ho b off hx _ _ hr Try.underlying59 rfl (h_info5 h)
end Go.Proofs.Ytofngihdnjgmeaa
