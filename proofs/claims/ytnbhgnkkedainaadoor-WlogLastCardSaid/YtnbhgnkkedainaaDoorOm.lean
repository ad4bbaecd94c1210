/- Bytes in memory: slices that read as bytes, rows of the call's own, what append and a conversion make of them. -/
import Derived.Test.YtnbhgnkkedainaaDoorCrc
import Derived.Test.YtnbhgnkkedainaaDoorDraw
import Derived.Below
import Derived.Maps.AppendAt
import Derived.OwnWalk
import Derived.Laws.OwnMore
import Derived.Lib.AppendStr
import Derived.Lib.AppendZeros
import Derived.Laws.IdiomStrings
import Derived.Lib.Hide
namespace Go.Proofs.YtnbhgnkkedainaaDoor
open Go.ChangeShapes Go.WideShapes Go.ChangeAt Go.RowKit

theorem b_info : (Tryd.prog.info? 5).map (fun i => (i.zero, i.size, i.bytes)) = some (some (.int .u8 0), 1, 1) := by kernel_rfl
/-- Bytes, as the cells that hold them. -/
def bys (l : List UInt8) : List Value := l.map fun c => .int .u8 (c.toNat : Int)
theorem bys_length (l : List UInt8) : (bys l).length = l.length := by simp [bys]
theorem bys_append (l m : List UInt8) : bys (l ++ m) = bys l ++ bys m := by simp [bys]
theorem bys_one (l : List UInt8) : ∀ u ∈ bys l, u.oneCell' = true := by
  intro u hu
  simp only [bys, List.mem_map] at hu
  obtain ⟨_, _, rfl⟩ := hu
  rfl
theorem bys_get {l : List UInt8} {j : Nat} (h : j < l.length) : (bys l)[j]? = some (.int .u8 ((l.getD j 0).toNat : Int)) := by
  simp [bys, List.getD, h]
theorem bys_at {l : List UInt8} {j : Nat} {u : Value} (h : (bys l)[j]? = some u) : j < l.length ∧ u = .int .u8 ((l.getD j 0).toNat : Int) := by
  have hj : j < l.length := by
    have := (List.getElem?_eq_some_iff.1 h).1
    rwa [bys_length] at this
  rw [bys_get hj] at h
  exact ⟨hj, (Option.some.inj h).symm⟩
theorem cell_lt {w : World} {a : Addr} {v : Value} (h : w.cell? a = some v) : a.block < w.heap.size := by
  rcases Nat.lt_or_ge a.block w.heap.size with h1 | h1
  · exact h1
  · simp [World.cell?, Array.getElem?_eq_none h1] at h
/-- A slice at A that reads as the bytes l. -/
def Bys (w : World) (A : Option Addr) (l : List UInt8) : Prop :=
  l = [] ∨ ∃ b off : Nat, A = some ⟨b, off, none⟩ ∧ ∀ i, i < l.length → w.cell? ⟨b, off + i, none⟩ = some (.int .u8 ((l.getD i 0).toNat : Int))
theorem Bys.nil (w : World) (A : Option Addr) : Bys w A [] := .inl rfl
theorem Bys.keep {w w' : World} {A : Option Addr} {l : List UInt8} (h : Bys w A l) (hk : ∀ b, b < w.heap.size → (∃ off z, w.cell? ⟨b, off, none⟩ = some (.int .u8 z)) → w'.heap[b]? = w.heap[b]?) : Bys w' A l := by
  rcases h with h | ⟨b, off, rfl, hc⟩
  · exact .inl h
  · refine .inr ⟨b, off, rfl, fun i hi => ?_⟩
    have h1 := hc i hi
    have h2 := hk b (cell_lt h1) ⟨_, _, h1⟩
    rw [World.cell?_of_block (w := w) (w' := w') h2]; exact h1
theorem Bys.below {w w' : World} {A : Option Addr} {l : List UInt8} (h : Bys w A l) (hb : Below w.heap.size w w') : Bys w' A l := h.keep fun b hl _ => hb.block b hl
theorem Bys.take {w : World} {A : Option Addr} {l : List UInt8} (h : Bys w A l) (k : Nat) : Bys w A (l.take k) := by
  rcases h with rfl | ⟨b, off, rfl, hc⟩
  · exact .inl (by simp)
  · refine .inr ⟨b, off, rfl, fun i hi => ?_⟩
    rw [List.length_take] at hi
    rw [hc i (by omega)]
    simp [List.getD, show i < k by omega]
theorem Bys.drop {w : World} {A : Option Addr} {l : List UInt8} (h : Bys w A l) (k : Nat) : Bys w (A.map (·.add k)) (l.drop k) := by
  rcases h with rfl | ⟨b, off, rfl, hc⟩
  · exact .inl (by simp)
  · refine .inr ⟨b, off + k, by simp [Go.WideShapes.add_plain], fun i hi => ?_⟩
    rw [List.length_drop] at hi
    rw [Nat.add_assoc, hc (k + i) (by omega)]
    simp [List.getD, List.getElem?_drop]
/-- A byte of it. -/
theorem Bys.at {w : World} {A : Option Addr} {l : List UInt8} (h : Bys w A l) {k : Nat} (hk : k < l.length) : ∃ b off : Nat, A = some ⟨b, off, none⟩ ∧ w.cell? ⟨b, off + k, none⟩ = some (.int .u8 ((l.getD k 0).toNat : Int)) := by
  rcases h with rfl | ⟨b, off, rfl, hc⟩
  · simp at hk
  · exact ⟨b, off, rfl, hc k hk⟩
/-- A row of the call's own that holds the bytes l. -/
def Own (w : World) (base : Nat) (v : Value) (l : List UInt8) : Prop := w.ownsRow base 5 1 v l.length (bys l)
theorem Own.slice {w : World} {base : Nat} {v : Value} {l : List UInt8} (h : Own w base v l) : ∃ A c, v = .slice A l.length c ∧ l.length ≤ c := by
  rcases h.2 with ⟨rfl, h0⟩ | ⟨g, cap, cur, rfl, _, _, h1, _⟩
  · exact ⟨none, 0, by rw [h0], by omega⟩
  · exact ⟨_, _, rfl, h1⟩
theorem Own.bys {w : World} {base : Nat} {A : Option Addr} {n c : Nat} {l : List UInt8} (h : Own w base (.slice A n c) l) : Bys w A l := by
  rcases h.2 with ⟨_, h0⟩ | ⟨g, cap, cur, h1, _⟩
  · exact .inl (List.eq_nil_of_length_eq_zero h0)
  · injection h1 with h2 h3 h4
    subst h2; subst h3; subst h4
    refine .inr ⟨g, 0, rfl, fun i hi => ?_⟩
    have := h.cells (g := g) rfl i _ (bys_get hi)
    rwa [Go.WideShapes.add_plain] at this
theorem Own.base {w : World} {base : Nat} {v : Value} {l : List UInt8} (h : Own w base v l) (k : Nat) (hk : v.ownBlock = some k) : base ≤ k := by
  rcases h.2 with ⟨rfl, _⟩ | ⟨g, cap, cur, rfl, hg, _⟩
  · simp [Value.ownBlock] at hk
  · simp [Value.ownBlock] at hk; omega
theorem Own.mono {w : World} {base base' : Nat} {v : Value} {l : List UInt8} (h : Own w base v l) (hb : base' ≤ base) : Own w base' v l := by
  refine ⟨h.1, ?_⟩
  rcases h.2 with h1 | ⟨g, cap, cur, h1, h2, h3⟩
  · exact .inl h1
  · exact .inr ⟨g, cap, cur, h1, by omega, h3⟩
theorem Own.below {w w' : World} {base : Nat} {v : Value} {l : List UInt8} (h : Own w base v l) (hb : Below w.heap.size w w') : Own w' base v l := by
  refine ⟨h.1, ?_⟩
  rcases h.2 with ⟨h1, h2⟩ | ⟨g, cap, cur, h1, h2, h3, h4⟩
  · exact .inl ⟨h1, h2⟩
  · refine .inr ⟨g, cap, cur, h1, h2, ?_, h4⟩
    rw [hb.block g (Array.getElem?_eq_some_iff.1 h3).1]; exact h3
theorem Own.nil (w : World) (base : Nat) : Own w base (.slice none 0 0) [] := World.ownsRow_nil _ _ _ _
theorem own_new (w : World) (cs : Array Value) (l : List UInt8) (h : cs = (bys l).toArray) (hm : l.length ≤ maxLen) : Own (w.alloc (.cells cs 5)) w.heap.size (.slice (some ⟨w.heap.size, 0, none⟩) l.length l.length) l := by
  subst h
  refine ⟨by simp [bys_length], .inr ⟨w.heap.size, l.length, (bys l).toArray, rfl, Nat.le_refl _, heap_alloc_new w _, Nat.le_refl _, hm, by simp [bys_length], ?_⟩⟩
  simp only [Nat.mul_one]
  rw [← bys_length l]; exact List.take_length
theorem bys_new (w : World) (z : Int) (c : UInt8) (h : z = (c.toNat : Int)) : Bys (w.alloc (.cells #[.int .u8 z] 5)) (some ⟨w.heap.size, 0, none⟩) [c] := by
  subst h
  exact (own_new w _ [c] rfl (by simp [maxLen])).bys
/-- append of bytes onto a row of the call's own. -/
theorem append_bys (w : World) (base : Nat) (ty : TypeId) (v : Value) (l : List UInt8) (hown : Own w base v l) (A : Option Addr) (c : Nat) (m : List UInt8) (hr : Bys w A m) (h63 : l.length + m.length ≤ 1048576) (hbase : base ≤ w.heap.size) :
    ∃ v' w', (Builtin.append_ #[34, 34] ty #[v, .slice A m.length c]).run Tryd.prog w = .ok v' w' ∧ Own w' base v' (l ++ m) ∧ w.grownBy w' v.ownBlock ∧ (v'.ownBlock = v.ownBlock ∨ v'.ownBlock = some w.heap.size) := by
  obtain ⟨i0, hi0, hz0, hz1, hz2⟩ := info_parts b_info
  unfold Own
  rw [List.length_append, bys_append]
  cases A with
  | none =>
    have hm : m = [] := by
      rcases hr with h | ⟨b, off, h, _⟩
      · exact h
      · cases h
    subst hm
    refine ⟨v, w, ?_, by simpa [Own, bys] using hown, World.grownBy.refl w _, .inl rfl⟩
    rcases hown.2 with ⟨rfl, h0⟩ | ⟨g, cap, cur, rfl, _, _, hnc, _⟩
    · simp [Builtin.append_, run_underlying Tryd.underlying34, sizeOf, typeInfo, hi0, Builtin.lenOf, Builtin.firstCells]
    · simp [Builtin.append_, run_underlying Tryd.underlying34, sizeOf, typeInfo, hi0, Builtin.lenOf, Builtin.firstCells, hnc, storeCells]
  | some ad =>
    obtain ⟨v', w', h1, h2, h3, _, h5⟩ := run_append_own_at (P := Tryd.prog) w base 34 ty 5 i0 (.int .u8 0) 1 1 Tryd.underlying34 hi0 hz0 hz1 hz2 rfl (by omega) v l.length (bys l) hown ad m.length c (bys m)
      (by rw [bys_length, Nat.mul_one])
      (fun j u hu => by
        obtain ⟨hj, rfl⟩ := bys_at hu
        obtain ⟨b, off, h, hc⟩ := hr.at hj
        injection h with h
        subst h
        rw [Go.WideShapes.add_plain]; exact hc)
      (bys_one _) (by simp only [maxLen]; omega) (by omega) hbase
    exact ⟨v', w', h1, h2, h3, h5⟩
theorem app_bys {w : World} {ops : Array Oper} {rest : List Oper} {o : Oper} {a : Act} {Q : Exit → Act → World → Prop} {base : Nat} {v : Value} {l : List UInt8} (hown : Own w base v l) (hbase : base ≤ w.heap.size) {A : Option Addr} {m : List UInt8} (hr : Bys w A m) {k : Nat} (hk : m.length = k) (hgd : o.guard = none) (s x : Operand)
    (ho : o.op = .call { callee := .builtin .append, args := #[s, x], argTypes := #[34, 34] }) (hs : a.eval s = v)
    {c : Nat} (hx : a.eval x = .slice A k c) (h63 : l.length + m.length ≤ 1048576)
    (h : ∀ v' w', Own w' base v' (l ++ m) → w.grownBy w' v.ownBlock → wpList Tryd.prog ops Q rest (a.put o.dst v') w') : wpList Tryd.prog ops Q (o :: rest) a w :=
  wpList_plain hgd fun _ hK => by
    subst hk
    obtain ⟨v', w', hrun, h2, h3, _⟩ := append_bys w base o.type v l hown A c m hr h63 hbase
    unfold Oper.wp execOp
    simp only [ho, resolve, invoke, builtin, Sem.run_bind, Sem.run_pure, Result.andThen_ok, List.map_toArray, List.map_cons, List.map_nil, hs, hx, hrun]
    exact hK _ _ (h v' w' h2 h3)
/-- append of a text's bytes. -/
theorem app_str {w : World} {ops : Array Oper} {rest : List Oper} {o : Oper} {a : Act} {Q : Exit → Act → World → Prop} {base : Nat} {v : Value} {l : List UInt8} (hown : Own w base v l) (hbase : base ≤ w.heap.size) (s : ByteArray) (hgd : o.guard = none) (y x : Operand)
    (ho : o.op = .call { callee := .builtin .append, args := #[y, x], argTypes := #[34, 9] }) (hs : a.eval y = v) (hx : a.eval x = .string s) (h63 : l.length + s.size ≤ 1048576)
    (h : ∀ v' w', Own w' base v' (l ++ s.data.toList) → w.grownBy w' v.ownBlock → wpList Tryd.prog ops Q rest (a.put o.dst v') w') : wpList Tryd.prog ops Q (o :: rest) a w :=
  wpList_plain hgd fun _ hK => by
    obtain ⟨i0, hi0, hz0, hz1, hz2⟩ := info_parts b_info
    obtain ⟨v', w', hrun, h2, h3, _⟩ := Lib.run_append_own_string (P := Tryd.prog) w base 34 9 o.type 5 i0 Tryd.underlying34 Tryd.underlying9 hi0 hz0 hz1 hz2 v l.length (bys l) hown s (by simp only [maxLen]; omega) (by omega) hbase
    unfold Oper.wp execOp
    simp only [ho, resolve, invoke, builtin, Sem.run_bind, Sem.run_pure, Result.andThen_ok, List.map_toArray, List.map_cons, List.map_nil, hs, hx, hrun]
    refine hK _ _ (h v' w' ?_ h3)
    unfold Own
    rw [List.length_append, bys_append]
    have e1 : s.data.toList.length = s.size := by simp
    rw [e1]
    exact h2
/-- string(b). -/
theorem run_str {w : World} {A : Option Addr} {l : List UInt8} (h : Bys w A l) (c : Nat) : (convert 34 9 (.slice A l.length c)).run Tryd.prog w = .ok (.string ⟨l.toArray⟩) w := by
  cases A with
  | none =>
    have hm : l = [] := by
      rcases h with h | ⟨b, off, h, _⟩
      · exact h
      · cases h
    subst hm
    simp [convert, run_underlying Tryd.underlying34, run_underlying Tryd.underlying9, run_underlying Tryd.underlying5, Conv.bytesToString]
    rfl
  | some ad =>
    refine run_convert_bytes_back w 34 9 5 ad c l Tryd.underlying34 Tryd.underlying5 Tryd.underlying9 (fun j hj => ?_)
    obtain ⟨b, off, h, hc⟩ := h.at hj
    injection h with h
    subst h
    rw [Go.WideShapes.add_plain, hc]
    simp [List.getD, hj]
theorem wp_str {w : World} {o : Oper} {a : Act} {K : Act → World → Prop} {Q : Exit → Act → World → Prop} {A : Option Addr} {l : List UInt8} (hr : Bys w A l) {k : Nat} (hk : l.length = k) (x : Operand) (ho : o.op = .convert 34 9 x) {c : Nat} (hx : a.eval x = .slice A k c)
    (h : K (a.put o.dst (.string ⟨l.toArray⟩)) w) : o.wp Tryd.prog a w K Q := by
  subst hk
  unfold Oper.wp execOp
  simp only [ho, hx, Sem.run_bind, Sem.run_pure, Result.andThen_ok, run_str hr]
  exact h
theorem to_str {w : World} {ops : Array Oper} {rest : List Oper} {o : Oper} {a : Act} {Q : Exit → Act → World → Prop} {A : Option Addr} {l : List UInt8} (hr : Bys w A l) {k : Nat} (hk : l.length = k) (hgd : o.guard = none) (x : Operand) (ho : o.op = .convert 34 9 x) {c : Nat} (hx : a.eval x = .slice A k c)
    (h : wpList Tryd.prog ops Q rest (a.put o.dst (.string ⟨l.toArray⟩)) w) : wpList Tryd.prog ops Q (o :: rest) a w :=
  wpList_plain hgd fun _ hK => wp_str hr hk x ho hx (hK _ _ h)
theorem to_str_want {w : World} {ops : Array Oper} {rest : List Oper} {o : Oper} {a : Act} {Q : Exit → Act → World → Prop} {A : Option Addr} {l : List UInt8} (hr : Bys w A l) {k : Nat} (hk : l.length = k) (x : Operand) (ho : o.op = .convert 34 9 x) {c : Nat} (hx : a.eval x = .slice A k c)
    (hw : Region.wanted o (yielded ops a.tmps) = true) (h : wpList Tryd.prog ops Q rest (a.put o.dst (.string ⟨l.toArray⟩)) w) : wpList Tryd.prog ops Q (o :: rest) a w :=
  BigFrame.wpList_want hw fun _ hK => wp_str hr hk x ho hx (hK _ _ h)
/-- []byte(s). -/
theorem to_bys {w : World} {ops : Array Oper} {rest : List Oper} {o : Oper} {a : Act} {Q : Exit → Act → World → Prop} (s : ByteArray) (hgd : o.guard = none) (x : Operand) (ho : o.op = .convert 9 34 x) (hx : a.eval x = .string s)
    (h : ∀ A c w', Bys w' A s.data.toList → Below w.heap.size w w' → wpList Tryd.prog ops Q rest (a.put o.dst (.slice A s.size c)) w') : wpList Tryd.prog ops Q (o :: rest) a w :=
  wpList_plain hgd fun _ hK => by
    have e := run_bytes_of_string (P := Tryd.prog) w 9 34 5 s Tryd.underlying9 Tryd.underlying34 Tryd.underlying5
    unfold Oper.wp execOp
    simp only [ho, hx, Sem.run_bind, Sem.run_pure, Result.andThen_ok, e]
    refine hK _ _ (h _ _ _ (.inr ⟨w.heap.size, 0, rfl, fun i hi => ?_⟩) ((Below.refl _ _).drew.alloc (Nat.le_refl _) _))
    have hi' : i < s.size := by simpa using hi
    rw [cell_of_row _ w.heap.size (0 + i) _ 5 _ (heap_alloc_new w.drew _)]
    simp [bytesRow, List.getD, hi', Array.getElem?_append]
end Go.Proofs.YtnbhgnkkedainaaDoor
