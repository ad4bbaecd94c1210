/- Vectors (arrays of 16 ints): the lists that they are, the cells that hold them, and what the operations on them do. A region that draws its order, whose operations read what is kept and whose callees only make memory of their own: one walk in the text's order. Several vectors that are kept, each in a block of its own, while calls make memory; and what joining, and being over, hang on. Contracts of vec.Right, vec.Join and vec.Over. Contracts of the document's Over, Right and Join of layer 2. Contracts of vec.Sum and vec.Grow, and of the document's Sum and Grow of layer 2. What a law of layer 2 needs: vectors that come in; 'awake'. Rows of ints: what append does to one, and what a slice expression reads.; Rights (288 ints: Given, Used, then 16 rows of what each moved): the lists that they are, the cells that hold them, their parts, and what the operations on them do. Rights: when two are the same; a row of what was moved; rights that come in. Contracts of rights.told, rights.isReplica, rights.Give and the document's Give. Contracts of rights.Give and the document's Give. Contracts of rights.less, slices.Grow and slices.Concat of ints. Contracts of slices.Grow and slices.Concat of ints. A contract of rights.Free. A contract of rights.Free. Contracts of rights.Total, and the document's Free and Total. A contract of the document's Free. Aggregates that are filled with parts; rows of vectors; a contract of rights.vectors. A contract of rights.vectors.; Contracts of rights.Right and the document's Right. A contract of the document's Right. Contracts of rights.covered, rights.Use and rights.Move. Contracts of the document's Use and Move. Contracts of rights.Over and of rights.Join's own closure. Contracts of rights.Join and its closure. A contract of rights.Join. Rights, built of two vectors. Contracts of the document's Join and Over. -/
import Derived.Test.YtgblnlpfgdbnnaaGreatRows
import Derived.Test.YtgblnlpfgdbnnaaGreatZ01
import Derived.LoopTactic
import Derived.Defers
import Derived.Recover
import Derived.WalkSmall
import Derived.Lib.AppendZeros
import Derived.Deep.OwnRows
import Derived.WalkMore
namespace Go.Proofs.YtgblnlpfgdbnnaaGreat
set_option maxRecDepth 100000
open Go.ChangeShapes Go.WideShapes Go.ChangeAt Go.RowKit

/-- Two vectors, boxed one behind the other. -/
theorem boxes (w : World) (t : TypeId) (xs ys : List Int) : Blk ((w.alloc (.cells (vals xs).toArray t)).alloc (.cells (vals ys).toArray t)) w.heap.size t xs ∧ Blk ((w.alloc (.cells (vals xs).toArray t)).alloc (.cells (vals ys).toArray t)) (w.heap.size + 1) t ys ∧ Below w.heap.size w ((w.alloc (.cells (vals xs).toArray t)).alloc (.cells (vals ys).toArray t)) :=
  ⟨(Blk.new w _ xs).alloc _, by have := Blk.new (w.alloc (.cells (vals xs).toArray t)) t ys; simpa using this, ((Below.refl _ _).alloc (Nat.le_refl _) _).alloc (by simp) _⟩
def zeros : List Int := List.replicate 16 0
/-- Two vectors lie in the first two blocks of a call's own; below them all is as it was. -/
abbrev Two (w : World) (xs ys : List Int) (w' : World) : Prop := w'.rangeAt w.heap.size 0 (vals xs) ∧ w'.rangeAt (w.heap.size + 1) 0 (vals ys) ∧ Below w.heap.size w w' ∧ w.heap.size + 2 ≤ w'.heap.size
theorem Two.start (w : World) (t : TypeId) (xs ys : List Int) : Two w xs ys ((w.alloc (.cells (vals xs).toArray t)).alloc (.cells (vals ys).toArray t)) :=
  ⟨(boxes w t xs ys).1.range, (boxes w t xs ys).2.1.range, (boxes w t xs ys).2.2, by simp⟩
theorem Two.drew {w w1 : World} {xs ys : List Int} (h : Two w xs ys w1) : Two w xs ys w1.drew := ⟨h.1, h.2.1, h.2.2.1.drew, h.2.2.2⟩
theorem Two.call {w w1 w2 : World} {xs ys : List Int} (h : Two w xs ys w1) (hb : Below w1.heap.size w1 w2) : Two w xs ys w2 :=
  ⟨range_below h.1 hb (by have := h.2.2.2; omega), range_below h.2.1 hb (by have := h.2.2.2; omega), h.2.2.1.trans (hb.mono (by have := h.2.2.2; omega)), Nat.le_trans h.2.2.2 hb.size⟩
/-! ### Equality of arrays of ints. -/
theorem vec_info : (Tryz.prog.info? 33).map (·.size) = some 16 := by kernel_rfl
theorem vec_info_of {zs : List Int} (h : zs.length = 16) : (Tryz.prog.info? 33).map (·.size) = some (vals zs).length := by rw [vals_length, h]; exact vec_info

theorem index_vec {zs : List Int} (hz : zs.length = 16) {k : Nat} (hk : k < 16) (w : World) : (Instr.index 33 (.agg (vals zs).toArray) (.int .i64 (k : Int))).run Tryz.prog w = .ok (.int .i64 (zs.getD k 0)) w := by
  have hp : (part 3 (vals zs).toArray k).run Tryz.prog w = .ok (.int .i64 (zs.getD k 0)) w := by
    simp [part, isAgg, run_underlying Tryz.underlying3, vals, List.getElem?_eq_getElem (show k < zs.length by omega)]
  simp [Instr.index, asIntOf, run_underlying Tryz.underlying33, hk, hp]

/-! ### Loads and stores of whole vectors, at a plain region's list. -/
theorem wpList_load_vec {ops : Array Oper} {rest : List Oper} {o : Oper} {a : Act} {w : World} {Q : Exit → Act → World → Prop} (hgd : o.guard = none) (x : Operand) (ho : o.op = .load 33 x)
    (b : Nat) (hx : a.eval x = .pointer (some ⟨b, 0, none⟩)) (zs : List Int) (hb : Blk w b 33 zs) (hl : zs.length = 16)
    (h : wpList Tryz.prog ops Q rest (a.put o.dst (.agg (vals zs).toArray)) w) : wpList Tryz.prog ops Q (o :: rest) a w :=
  wpList_load_row hgd _ x ho b hx _ _ (0, 0) _ hb Tryz.underlying33 rfl (by rw [List.size_toArray]; exact vec_info_of hl) h

/-- May each number of a vector be? -/
def rightB (xs : List Int) : Bool := xs.all fun n => decide (0 ≤ n) && decide (n ≤ 1099511627776)
theorem rightB_iff {xs : List Int} (hx : xs.length = 16) : rightB xs = true ↔ ∀ k, k < 16 → (0 ≤ xs.getD k 0 ∧ xs.getD k 0 ≤ 1099511627776) := by
  simp only [rightB, List.all_eq_true, Bool.and_eq_true, decide_eq_true_eq]
  constructor
  · intro h k hk
    exact h _ (by simp [List.getD, show k < xs.length by omega])
  · intro h x hm
    obtain ⟨k, hk, rfl⟩ := List.getElem_of_mem hm
    have := h k (by omega)
    simpa [List.getD, hk] using this

/-- Below w's end all is as it was; in each of these blocks lies this vector. -/
def Keep (w : World) (l : List (Nat × List Int)) (u : World) : Prop := Below w.heap.size w u ∧ ∀ x ∈ l, Blk u x.1 33 x.2 ∧ x.2.length = 16

theorem Keep.call {w u u' : World} {l : List (Nat × List Int)} (h : Keep w l u) (hb : Below u.heap.size u u') : Keep w l u' :=
  ⟨h.1.trans (hb.mono h.1.size), fun x hx => ⟨(h.2 x hx).1.below hb (h.2 x hx).1.lt, (h.2 x hx).2⟩⟩
theorem Keep.drew {w u : World} {l : List (Nat × List Int)} (h : Keep w l u) : Keep w l u.drew := ⟨h.1.drew, h.2⟩
theorem Keep.drewN {w u : World} {l : List (Nat × List Int)} (h : Keep w l u) (n : Nat) : Keep w l (u.drewN n) := ⟨below_drewN h.1 n, h.2⟩
theorem Keep.get {w u : World} {l : List (Nat × List Int)} (h : Keep w l u) (i : Nat) {b : Nat} {zs : List Int} (hi : l[i]? = some (b, zs)) : Blk u b 33 zs := (h.2 _ (List.mem_of_getElem? hi)).1
theorem Keep.len {w u : World} {l : List (Nat × List Int)} (h : Keep w l u) (i : Nat) {b : Nat} {zs : List Int} (hi : l[i]? = some (b, zs)) : zs.length = 16 := (h.2 _ (List.mem_of_getElem? hi)).2
theorem Keep.cons {w u : World} {l : List (Nat × List Int)} (h : Keep w l u) {b : Nat} {zs : List Int} (hb : Blk u b 33 zs) (hl : zs.length = 16) : Keep w ((b, zs) :: l) u :=
  ⟨h.1, fun x hx => by
    rcases List.mem_cons.1 hx with rfl | hx
    · exact ⟨hb, hl⟩
    · exact h.2 x hx⟩
theorem Keep.refl (w : World) : Keep w [] w := ⟨Below.refl _ _, by simp⟩
theorem Keep.new {w u : World} {l : List (Nat × List Int)} (h : Keep w l u) {zs : List Int} (hl : zs.length = 16) {n : Nat} (hn : u.heap.size = n) : Keep w ((n, zs) :: l) (u.alloc (.cells (vals zs).toArray 33)) := by
  subst hn
  exact (h.call (box u _ zs).2).cons (box u _ zs).1 hl

/-! ### Joining, and being over. -/

theorem right_any (xs : List Int) (hx : xs.length = 16) (w : World) :
    Calls Tryz.prog 167 #[.agg (vals xs).toArray] w fun e w' => e = .returned (.bool (rightB xs)) ∧ Below w.heap.size w w' := by
  have hix : ∀ (k : Nat) (W : World), k < 16 → (Instr.index 33 (.agg (vals xs).toArray) (.int .i64 (k : Int))).run Tryz.prog W = .ok (.int .i64 (xs.getD k 0)) W := fun k W hk => index_vec hx hk W
  have HIX := Lib.hid hix; clear hix
  have HI := Lib.hid (rightB_iff hx)
  have HX := Lib.hid hx; clear hx
  have H0 := Lib.hid (box w 33 xs)
  go_enter Tryz.func167, Tryz.ntmps167
  go_wp2_with ((with_reducible refine wpList_load_vec rfl _ rfl _ rfl _ H0.out.1 HX.out ?_))
  go_loop [6] (fun i => ∃ k : Nat, k ≤ 16 ∧ i = .int .i64 k ∧ ∀ j, j < k → 0 ≤ xs.getD j 0 ∧ xs.getD j 0 ≤ 1099511627776) (fun i => 16 - (intOf i).toNat)
  case atStart => exact ⟨0, by omega, rfl, fun j hj => by omega⟩
  case round =>
    obtain ⟨k, hk, rfl, hD⟩ := hrel
    have HD := Lib.hid hD
    clear hD
    by_cases hlt : k < 16
    · have hi : ∀ W : World, (Instr.index 33 (.agg (vals xs).toArray) (.int .i64 (k : Int))).run Tryz.prog W = .ok (.int .i64 (xs.getD k 0)) W := fun W => HIX.out k W hlt
      generalize hx : xs.getD k 0 = x at hi
      have Hx := Lib.hid hx
      clear hx
      have i1 : (0 : Int) ≤ (k : Int) := by omega
      have i2 : (k : Int) < 16 := by omega
      have hf : ¬ (0 ≤ x ∧ x ≤ 1099511627776) → false = rightB xs := fun hn => by
        cases h : rightB xs with
        | false => rfl
        | true => have := HI.out.1 h k hlt; rw [Hx.out] at this; exact absurd this hn
      have HF := Lib.hid hf; clear hf
      by_cases h1 : x < 0
      · go_wp2
        go_ret
        exact ⟨congrArg (fun b => Ending.returned (.bool b)) (HF.out (by omega)), H0.out.2⟩
      · by_cases h2 : 1099511627776 < x
        · have e : isB x = false := isB_not.2 (by omega)
          go_wp2_with ((go_at_call 38; (with_reducible refine (is_any _ _).mono ?_); rintro e w' ⟨rfl, rfl⟩))
          go_ret
          exact ⟨congrArg (fun b => Ending.returned (.bool b)) (HF.out (by omega)), H0.out.2⟩
        · have e : isB x = true := isB_iff.2 (by omega)
          go_wp2_with ((go_at_call 38; (with_reducible refine (is_any _ _).mono ?_); rintro e w' ⟨rfl, rfl⟩))
          go_round
          case rel => exact ⟨k + 1, by omega, by go_num, fun j hj => by
            by_cases hjk : j = k
            · rw [hjk, Hx.out]; omega
            · exact HD.out j (by omega)⟩
          case measure => simp [intOf]; omega
    · have ht : true = rightB xs := (HI.out.2 fun j hj => HD.out j (by omega)).symm
      have HT := Lib.hid ht; clear ht
      go_wp2
      go_ret
      exact ⟨congrArg (fun b => Ending.returned (.bool b)) HT.out, H0.out.2⟩

/-- A block of a vector, read as a slice of all its numbers. -/
theorem Blk.reads {w : World} {b : Nat} {t : TypeId} {zs : List Int} (h : Blk w b t zs) (hl : zs.length = 16) : Reads w (some ⟨b, 0, none⟩) 16 zs :=
  ⟨hl, by simp [maxLen], .inr ⟨b, 0, rfl, fun i hi => by rw [Nat.zero_add]; exact h.cell (by omega)⟩⟩

/-- What a vector grows to, and why it does not. -/
def growE (xs : List Int) (k n : Int) : Int := if k < 0 ∨ 16 ≤ k ∨ n < 0 then 1 else addE (xs.getD k.toNat 0) n
def growL (xs : List Int) (k n : Int) : List Int := if growE xs k n = 0 then xs.set k.toNat (addN (xs.getD k.toNat 0) n) else zeros
theorem grow_arg {xs : List Int} {k n : Int} (h : k < 0 ∨ 16 ≤ k ∨ n < 0) : growE xs k n = 1 ∧ growL xs k n = zeros := by simp [growL, growE, h]
theorem grow_no {xs : List Int} {k n : Int} (h : ¬ (k < 0 ∨ 16 ≤ k ∨ n < 0)) (ha : okB (xs.getD k.toNat 0) n (xs.getD k.toNat 0 + n) = false) : growE xs k n = 2 ∧ growL xs k n = zeros := by
  have e : growE xs k n = 2 := by unfold growE; rw [if_neg h, (addE_no ha).1]
  exact ⟨e, by rw [growL, e]; simp⟩
theorem grow_yes {xs : List Int} {k n : Int} (h : ¬ (k < 0 ∨ 16 ≤ k ∨ n < 0)) (ha : okB (xs.getD k.toNat 0) n (xs.getD k.toNat 0 + n) = true) : growE xs k n = 0 ∧ growL xs k n = xs.set k.toNat (xs.getD k.toNat 0 + n) := by
  have e : growE xs k n = 0 := by unfold growE; rw [if_neg h, (addE_ok ha).1]
  exact ⟨e, by rw [growL, e, (addE_ok ha).2]; simp⟩

/-- What grew: number k alone is greater, by n. -/
theorem grow_zero {xs : List Int} (_hx : xs.length = 16) {k n : Int} (h : growE xs k n = 0) : ∃ j : Nat, k = j ∧ j < 16 ∧ 0 ≤ n ∧ okB (xs.getD j 0) n (xs.getD j 0 + n) = true ∧ growL xs k n = xs.set j (xs.getD j 0 + n) := by
  by_cases hk : k < 0 ∨ 16 ≤ k ∨ n < 0
  · rw [(grow_arg hk).1] at h; cases h
  · cases ha : okB (xs.getD k.toNat 0) n (xs.getD k.toNat 0 + n) with
    | false => rw [(grow_no hk ha).1] at h; cases h
    | true => exact ⟨k.toNat, by omega, by omega, by omega, ha, (grow_yes hk ha).2⟩

def g0 : List Int := [3, 9, 0, 0, 0, 0, 0, 0, 0, 0, 0, 0, 0, 0, 0, 0]

theorem int_info : (Tryz.prog.info? 3).map (fun i => (i.zero, i.size, i.bytes)) = some (some (.int .i64 0), 1, 8) := by kernel_rfl

theorem vals_append (xs ys : List Int) : vals (xs ++ ys) = vals xs ++ vals ys := by simp [vals]

theorem append_ints (w : World) (base : Nat) (ty : TypeId) (v : Value) (n : Nat) (xs : List Int) (hown : w.ownsRow base 3 1 v n (vals xs)) (A : Option Addr) (m c : Nat) (zs : List Int) (hr : Reads w A m zs) (h63 : n + m ≤ 1048576) (hbase : base ≤ w.heap.size) :
    ∃ v' w', (Builtin.append_ #[63, 63] ty #[v, .slice A m c]).run Tryz.prog w = .ok v' w' ∧ w'.ownsRow base 3 1 v' (n + m) (vals (xs ++ zs)) ∧ w.grownBy w' v.ownBlock ∧ (v'.ownBlock = v.ownBlock ∨ v'.ownBlock = some w.heap.size) := by
  obtain ⟨i0, hi0, hz0, hz1, hz2⟩ := info_parts int_info
  obtain ⟨hl, _, hx⟩ := hr
  rw [vals_append]
  cases A with
  | none =>
    have hm : m = 0 := by
      rcases hx with h0 | ⟨b, off, h, _⟩
      · exact h0
      · cases h
    subst hm
    have hzs : zs = [] := List.eq_nil_of_length_eq_zero hl
    subst hzs
    refine ⟨v, w, ?_, by simpa [vals] using hown, World.grownBy.refl w _, .inl rfl⟩
    rcases hown.2 with ⟨rfl, rfl⟩ | ⟨g, cap, cur, rfl, _, _, hnc, _⟩
    · simp [Builtin.append_, run_underlying Tryz.underlying63, sizeOf, typeInfo, hi0, Builtin.lenOf, Builtin.firstCells]
    · simp [Builtin.append_, run_underlying Tryz.underlying63, sizeOf, typeInfo, hi0, Builtin.lenOf, Builtin.firstCells, hnc, storeCells]
  | some ad =>
    obtain ⟨v', w', h1, h2, h3, _, h5⟩ := run_append_own_at (P := Tryz.prog) w base 63 ty 3 i0 (.int .i64 0) 1 8 Tryz.underlying63 hi0 hz0 hz1 hz2 rfl (by omega) v n (vals xs) hown ad m c (vals zs)
      (by rw [vals_length, hl, Nat.mul_one])
      (fun j u hu => by
        obtain ⟨hj, rfl⟩ := vals_at hu
        rcases hx with h0 | ⟨b, off, h, hc⟩
        · omega
        · injection h with h
          subst h
          rw [Go.WideShapes.add_plain]
          exact hc j (by omega))
      (fun u hu => by
        simp only [vals, List.mem_map] at hu
        obtain ⟨z, _, rfl⟩ := hu
        rfl) (by simp only [maxLen]; omega) (by omega) hbase
    exact ⟨v', w', h1, h2, h3, h5⟩

theorem wpList_append_ints {w : World} {ops : Array Oper} {rest : List Oper} {o : Oper} {a : Act} {Q : Exit → Act → World → Prop} (hgd : o.guard = none) (s x : Operand)
    (ho : o.op = .call { callee := .builtin .append, args := #[s, x], argTypes := #[63, 63] })
    (base : Nat) (v : Value) (n : Nat) (xs : List Int) (hs : a.eval s = v) (hown : w.ownsRow base 3 1 v n (vals xs))
    (A : Option Addr) (m c : Nat) (zs : List Int) (hx : a.eval x = .slice A m c) (hr : Reads w A m zs) (h63 : n + m ≤ 1048576) (hbase : base ≤ w.heap.size)
    (h : ∀ v' w', w'.ownsRow base 3 1 v' (n + m) (vals (xs ++ zs)) → w.grownBy w' v.ownBlock → (v'.ownBlock = v.ownBlock ∨ v'.ownBlock = some w.heap.size) → wpList Tryz.prog ops Q rest (a.put o.dst v') w') :
    wpList Tryz.prog ops Q (o :: rest) a w :=
  wpList_plain hgd fun _ hK => by
    obtain ⟨v', w', hrun, h2, h3, h4⟩ := append_ints w base o.type v n xs hown A m c zs hr h63 hbase
    unfold Oper.wp execOp
    simp only [ho, resolve, invoke, builtin, Sem.run_bind, Sem.run_pure, Result.andThen_ok, List.map_toArray, List.map_cons, List.map_nil, hs, hx, hrun]
    exact hK _ _ (h v' w' h2 h3 h4)

theorem own_reads {w : World} {base : Nat} {A : Option Addr} {n k c : Nat} {zs : List Int} (h : w.ownsRow base 3 1 (.slice A n c) k (vals zs)) (hm : n ≤ 1048576) : Reads w A n zs ∧ n = k := by
  have hl : zs.length = k := by have := h.1; rw [vals_length] at this; omega
  rcases h.2 with ⟨h1, rfl⟩ | ⟨g, cap, cur, h1, _⟩
  · injection h1 with _ h2
    subst h2
    exact ⟨⟨hl, by simp [maxLen], .inl rfl⟩, rfl⟩
  · injection h1 with h2 h3
    subst h2; subst h3
    refine ⟨⟨hl, by simp only [maxLen]; omega, .inr ⟨g, 0, rfl, fun i hi => ?_⟩⟩, rfl⟩
    have := h.cells (g := g) rfl i _ (vals_get (by omega))
    rwa [Go.WideShapes.add_plain] at this

theorem own_slice {w : World} {base : Nat} {v : Value} {n : Nat} {xs : List Value} (h : w.ownsRow base 3 1 v n xs) : ∃ A c, v = .slice A n c := by
  rcases h.2 with ⟨rfl, rfl⟩ | ⟨g, cap, cur, rfl, _⟩
  · exact ⟨_, _, rfl⟩
  · exact ⟨_, _, rfl⟩

/-! ### Parts of a list. -/
/-! ### Blocks. -/
/-! ### Operations at a plain region's list. -/
/-! ### What the types are. -/
theorem r_info : (Tryz.prog.info? 36).map (·.size) = some 288 := by kernel_rfl
theorem m_info : (Tryz.prog.info? 34).map (·.size) = some 256 := by kernel_rfl
theorem v_zero : (Tryz.prog.info? 33).bind (·.zero) = some (.agg (vals (zer 16)).toArray) := by kernel_rfl

theorem part_row {P : Program} {e : TypeId} {d : TypeDesc} {m : Nat} (he : P.underlying e = some d) (hd : d.isRow = true) (hsz : ∀ w, (sizeOf e).run P w = .ok m w) (xs : List Int) (o : Nat) (w : World) :
    (part e (vals xs).toArray o).run P w = .ok (.agg (vals (seg xs o m)).toArray) w := by
  have ha : (isAgg e).run P w = .ok true w := by
    unfold isAgg
    rw [Sem.run_bind, run_underlying he w]
    cases d <;> simp_all
  simp [part, ha, hsz, vals_seg]

theorem all_chunks {n m : Nat} (hm : 0 < m) {xs ys : List Int} (hx : xs.length = n * m) (hy : ys.length = n * m) : ((List.range n).all fun i => seg xs (i * m) m == seg ys (i * m) m) = (xs == ys) := by
  rw [Bool.eq_iff_iff]
  simp only [List.all_eq_true, List.mem_range, beq_iff_eq]
  constructor
  · intro h
    refine ext_get (by omega) fun k hk => ?_
    have hlt : k / m < n := by rw [Nat.div_lt_iff_lt_mul hm]; omega
    have h1 := congrArg (fun l => l.getD (k % m) 0) (h (k / m) hlt)
    have h2 : k % m < m := Nat.mod_lt _ hm
    simp only [seg_get h2] at h1
    have e : k / m * m + k % m = k := by rw [Nat.mul_comm]; exact Nat.div_add_mod k m
    rwa [e] at h1
  · intro h i _; rw [h]

theorem run_equalIn_rows {P : Program} (w : World) (d : Nat) (t e : TypeId) (dd : TypeDesc) (n m : Nat) (hm : 0 < m) (ht : P.underlying t = some (.array n e)) (he : P.underlying e = some dd) (hd : dd.isRow = true) (hsz : ∀ w, (sizeOf e).run P w = .ok m w)
    (heq : ∀ xs ys : List Int, xs.length = m → ys.length = m → (Op.equalIn d e (.agg (vals xs).toArray) (.agg (vals ys).toArray)).run P w = .ok (xs == ys) w)
    (xs ys : List Int) (hx : xs.length = n * m) (hy : ys.length = n * m) :
    (Op.equalIn (d + 1) t (.agg (vals xs).toArray) (.agg (vals ys).toArray)).run P w = .ok (xs == ys) w := by
  rw [← all_chunks hm hx hy, List.range_eq_range', Op.equalIn]
  simp only [Sem.run_bind, run_underlying ht, Result.andThen_ok, hsz, Std.Legacy.Range.forIn_eq_forIn_range', Std.Legacy.Range.size, Nat.sub_zero, Nat.add_sub_cancel, Nat.div_one]
  have hl : ∀ i ∈ List.range' 0 n 1, i < n := fun i hi => by simpa using (List.mem_range'_1.1 hi).2
  generalize List.range' 0 n 1 = l at hl ⊢
  induction l with
  | nil => simp
  | cons i l ih =>
    have hi : i < n := hl i (by simp)
    have hb : i * m + m ≤ n * m := by rw [← Nat.succ_mul]; exact Nat.mul_le_mul_right m hi
    have px := part_row (m := m) he hd hsz xs (i * m) w
    have py := part_row (m := m) he hd hsz ys (i * m) w
    have pe := heq (seg xs (i * m) m) (seg ys (i * m) m) (seg_length (by omega)) (seg_length (by omega))
    simp only [List.forIn_cons, Sem.run_bind, px, py, pe, Result.andThen_ok, List.all_cons]
    cases hb : (seg xs (i * m) m == seg ys (i * m) m)
    · simp
    · simp only [Bool.not_true, Bool.false_eq_true, if_false, Sem.run_pure, Result.andThen_ok, Bool.true_and]
      exact ih fun j hj => hl j (by simp [hj])

theorem vec_size : ∀ w, (sizeOf 33).run Tryz.prog w = .ok 16 w := fun w => by kernel_rfl
theorem mov_size : ∀ w, (sizeOf 34).run Tryz.prog w = .ok 256 w := fun w => by kernel_rfl
theorem r_fields : (Tryz.prog.fieldsOf 36).toList.map (fun f => (f.type, f.offset, f.name)) = [(33, 0, "Given"), (33, 16, "Used"), (34, 32, "Moved")] := by kernel_rfl
theorem fields3 {fs : List Field} {x y z : TypeId × Nat × String} (h : fs.map (fun f => (f.type, f.offset, f.name)) = [x, y, z]) : ∃ f g k, fs = [f, g, k] ∧ (f.type, f.offset, f.name) = x ∧ (g.type, g.offset, g.name) = y ∧ (k.type, k.offset, k.name) = z := by
  match fs, h with
  | [f, g, k], h => exact ⟨f, g, k, rfl, by simpa using h⟩
theorem eqFields3 {P : Program} {w : World} {d : Nat} {xs ys : Array Value} {f g k : Field} {a1 b1 a2 b2 a3 b3 : Value} {r1 r2 r3 : Bool} (n1 : f.name ≠ "_") (n2 : g.name ≠ "_") (n3 : k.name ≠ "_")
    (p1 : (part f.type xs f.offset).run P w = .ok a1 w) (q1 : (part f.type ys f.offset).run P w = .ok b1 w) (e1 : (Op.equalIn d f.type a1 b1).run P w = .ok r1 w)
    (p2 : (part g.type xs g.offset).run P w = .ok a2 w) (q2 : (part g.type ys g.offset).run P w = .ok b2 w) (e2 : (Op.equalIn d g.type a2 b2).run P w = .ok r2 w)
    (p3 : (part k.type xs k.offset).run P w = .ok a3 w) (q3 : (part k.type ys k.offset).run P w = .ok b3 w) (e3 : (Op.equalIn d k.type a3 b3).run P w = .ok r3 w) :
    (Op.eqFields d xs ys [f, g, k]).run P w = .ok (r1 && (r2 && r3)) w := by
  cases r1 <;> cases r2 <;> cases r3 <;> simp [Op.eqFields, n1, n2, n3, p1, q1, e1, p2, q2, e2, p3, q3, e3]
theorem r_under : Tryz.prog.underlying 36 = some (.struct (Tryz.prog.fieldsOf 36)) := by kernel_rfl

theorem segs_same {R T : List Int} (hR : R.length = 288) (hT : T.length = 288) : ((seg R 0 16 == seg T 0 16) && ((seg R 16 16 == seg T 16 16) && (seg R 32 256 == seg T 32 256))) = (R == T) := by
  rw [Bool.eq_iff_iff]
  simp only [Bool.and_eq_true, beq_iff_eq]
  constructor
  · rintro ⟨h1, h2, h3⟩
    have e : ∀ R : List Int, R.length = 288 → R = seg R 0 16 ++ (seg R 16 16 ++ seg R 32 256) := fun R hR => by
      refine ext_get (by simp [seg]; omega) fun k hk => ?_
      simp only [seg, List.getD, List.getElem?_append, List.length_take, List.length_drop, List.getElem?_take, List.getElem?_drop]
      by_cases k1 : k < 16
      · simp [k1, show k < min 16 R.length by omega]
      · by_cases k2 : k < 32
        · simp [show ¬ k < min 16 R.length by omega, show k - min 16 R.length < min 16 (R.length - 16) by omega, show k - min 16 R.length < 16 by omega, show 16 + (k - min 16 R.length) = k by omega]
        · simp [show ¬ k < min 16 R.length by omega, show ¬ k - min 16 R.length < min 16 (R.length - 16) by omega, show k - min 16 R.length - min 16 (R.length - 16) < 256 by omega, show 32 + (k - min 16 R.length - min 16 (R.length - 16)) = k by omega]
    rw [e R hR, e T hT, h1, h2, h3]
  · rintro rfl; exact ⟨rfl, rfl, rfl⟩

theorem eql_r_any (d : Nat) (R T : List Int) (hR : R.length = 288) (hT : T.length = 288) (w : World) : (Op.equalIn (d + 4) 36 (.agg (vals R).toArray) (.agg (vals T).toArray)).run Tryz.prog w = .ok (R == T) w := by
  have hst := run_equalIn_struct (P := Tryz.prog) w (d + 3) 36 (vals R).toArray (vals T).toArray r_under (by kernel_rfl)
  have hv : ∀ xs ys : List Int, xs.length = 16 → ys.length = 16 → (Op.equalIn (d + 3) 33 (.agg (vals xs).toArray) (.agg (vals ys).toArray)).run Tryz.prog w = .ok (xs == ys) w := fun xs ys hx hy =>
    run_equalIn_ints w (d + 1) 33 3 16 Tryz.underlying33 Tryz.underlying3 int_size xs ys hx hy
  have hv' : ∀ xs ys : List Int, xs.length = 16 → ys.length = 16 → (Op.equalIn (d + 2) 33 (.agg (vals xs).toArray) (.agg (vals ys).toArray)).run Tryz.prog w = .ok (xs == ys) w := fun xs ys hx hy =>
    run_equalIn_ints w d 33 3 16 Tryz.underlying33 Tryz.underlying3 int_size xs ys hx hy
  have hm := run_equalIn_rows w (d + 2) 34 33 _ 16 16 (by omega) Tryz.underlying34 Tryz.underlying33 rfl vec_size hv'
    (seg R 32 256) (seg T 32 256) (seg_length (by omega)) (seg_length (by omega))
  have p := fun xs o => part_row (P := Tryz.prog) Tryz.underlying33 rfl vec_size xs o w
  have q := fun xs o => part_row (P := Tryz.prog) Tryz.underlying34 rfl mov_size xs o w
  obtain ⟨f, g, k, hf, e1, e2, e3⟩ := fields3 r_fields
  injection e1 with e1a e1; injection e1 with e1b e1c
  injection e2 with e2a e2; injection e2 with e2b e2c
  injection e3 with e3a e3; injection e3 with e3b e3c
  rw [hst, hf, ← segs_same hR hT]
  clear hst hf
  refine eqFields3 (by rw [e1c]; decide) (by rw [e2c]; decide) (by rw [e3c]; decide) (by rw [e1a, e1b]; exact p R 0) (by rw [e1a, e1b]; exact p T 0) (by rw [e1a]; exact hv _ _ (seg_length (by omega)) (seg_length (by omega)))
    (by rw [e2a, e2b]; exact p R 16) (by rw [e2a, e2b]; exact p T 16) (by rw [e2a]; exact hv _ _ (seg_length (by omega)) (seg_length (by omega)))
    (by rw [e3a, e3b]; exact q R 32) (by rw [e3a, e3b]; exact q T 32) (by rw [e3a]; exact hm)

/-- Row k of what was moved. -/
theorem index_row {M : List Int} (_hM : M.length = 256) {k : Nat} (hk : k < 16) (w : World) : (Instr.index 34 (.agg (vals M).toArray) (.int .i64 (k : Int))).run Tryz.prog w = .ok (.agg (vals (seg M (k * 16) 16)).toArray) w := by
  have hp := part_row (P := Tryz.prog) Tryz.underlying33 rfl vec_size M (k * 16) w
  simp [Instr.index, asIntOf, run_underlying Tryz.underlying34, hk, hp]

/-- Is this a replica? -/
def repB (k : Int) : Bool := decide (0 ≤ k) && decide (k < 16)
theorem repB_iff {k : Int} : repB k = true ↔ (0 ≤ k ∧ k < 16) := by simp [repB]
/-- With an error the zero ones. -/
def toldR (R : List Int) (e : Int) : List Int := if e = 0 then R else zer 288
theorem toldR_length {R : List Int} (h : R.length = 288) (e : Int) : (toldR R e).length = 288 := by unfold toldR; split <;> simp [h, zer_length]
theorem toldR_ok (R : List Int) : toldR R 0 = R := by simp [toldR]

/-- What grows in the vector that begins at o; with an error the zero ones. -/
def grE (R : List Int) (o : Nat) (k n : Int) : Int := growE (seg R o 16) k n
def grA (R : List Int) (o : Nat) (k n : Int) : List Int := toldR (splice R o (growL (seg R o 16) k n)) (grE R o k n)
theorem grA_length {R : List Int} (h : R.length = 288) (o : Nat) (k n : Int) : (grA R o k n).length = 288 := toldR_length (by rw [splice_length]; exact h) _

/-- A number with its sign turned, as 64 bits bear it. -/
def ng (z : Int) : Int := wrap64 (-z)
def negs (zs : List Int) : List Int := zs.map ng
theorem negs_length (zs : List Int) : (negs zs).length = zs.length := by simp [negs]
theorem negs_get {zs : List Int} {k : Nat} (h : k < zs.length) : (negs zs).getD k 0 = ng (zs.getD k 0) := by simp [negs, List.getD, h]

theorem made_zero (n : Nat) : madeCells #[Value.int .i64 0] n = (vals (zer n)).toArray := by
  apply Array.ext
  · simp [madeCells, vals_length, zer_length]
  · intro i h1 h2
    simp only [madeCells, vals, zer]; simp [Nat.mod_one]

theorem own_base {w : World} {base : Nat} {e : TypeId} {s : Nat} {v : Value} {n : Nat} {xs : List Value} (h : w.ownsRow base e s v n xs) (k : Nat) (hk : v.ownBlock = some k) : base ≤ k := by
  rcases h.2 with ⟨rfl, _⟩ | ⟨g, cap, cur, rfl, hg, _⟩
  · simp [Value.ownBlock] at hk
  · simp [Value.ownBlock] at hk; omega

/-! ### Rows of ints that are made, beside what is kept. -/
theorem set_one (f : Nat → Value) (v : Value) : (Array.map f (Array.range 1)).setIfInBounds 0 v = #[v] := by
  apply Array.ext
  · simp
  · intro i h1 h2
    have : i = 0 := by simp at h2; omega
    subst this
    simp
theorem run_build1 (z : Int) (u : World) : (Instr.buildSlice 63 1 #[(0, .int .i64 z)]).run Tryz.prog u = .ok (.slice (some ⟨u.heap.size, 0, none⟩) 1 1) (u.alloc (.cells (vals [z]).toArray 3)) := by
  obtain ⟨i0, hi0, hz0, hz1, hz2⟩ := info_parts int_info
  simp [Instr.buildSlice, run_underlying Tryz.underlying63, sizeOf, typeInfo, zeroValue, hi0, hz0, hz1, Instr.fill, Value.cells, newRow, newObj, vals, set_one]
  rfl
theorem wp_build1 {o : Oper} {a : Act} {w u : World} {l : List (Nat × TypeId × List Int)} {K : Act → World → Prop} {Q : Exit → Act → World → Prop} (hk : KeepR w l u) (x : Operand) (ho : o.op = .buildSlice 63 1 #[(0, x)]) {z : Int} (hx : a.eval x = .int .i64 z)
    (h : ∀ b u', KeepR w ((b, 3, [z]) :: l) u' → Below u.heap.size u u' → K (a.put o.dst (.slice (some ⟨b, 0, none⟩) 1 1)) u') : o.wp Tryz.prog a u K Q := by
  unfold Oper.wp execOp
  simp only [ho, List.map_toArray, List.map_cons, List.map_nil, hx, Sem.run_bind, Sem.run_pure, Result.andThen_ok, run_build1]
  exact h _ _ (hk.new rfl) (box u _ _).2
theorem Blk.own {w : World} {base b : Nat} {zs : List Int} (h : Blk w b 3 zs) (hb : base ≤ b) {n : Nat} (hn : zs.length = n) (hm : n ≤ 1048576) : w.ownsRow base 3 1 (.slice (some ⟨b, 0, none⟩) n n) n (vals zs) :=
  ⟨by rw [vals_length, hn, Nat.mul_one], .inr ⟨b, n, _, rfl, hb, h, Nat.le_refl _, by simp only [maxLen]; omega, by simp [vals_length, hn], by simp [vals_length, hn, List.take_of_length_le]⟩⟩
theorem Blk.readsAll {w : World} {b : Nat} {t : TypeId} {zs : List Int} (h : Blk w b t zs) {n : Nat} (hl : zs.length = n) (hm : n ≤ 1048576) : Reads w (some ⟨b, 0, none⟩) n zs :=
  ⟨hl, by simp only [maxLen]; omega, .inr ⟨b, 0, rfl, fun i hi => by rw [Nat.zero_add]; exact h.cell (by omega)⟩⟩
theorem reads_seg {w : World} {b : Nat} {t : TypeId} {R : List Int} (h : Blk w b t R) {o n : Nat} (hr : o + n ≤ R.length) (hm : n ≤ 1048576) : Reads w (some ⟨b, o, none⟩) n (seg R o n) :=
  ⟨seg_length hr, by simp only [maxLen]; omega, .inr ⟨b, o, rfl, fun i hi => by rw [h.cell (by omega), seg_get hi]⟩⟩
theorem KeepR.grown {w u u' : World} {l : List (Nat × TypeId × List Int)} (h : KeepR w l u) {v : Value} {n : Nat} {xs : List Value} (ho : u.ownsRow w.heap.size 3 1 v n xs) (ht : ∀ x ∈ l, x.2.1 ≠ 3) (hg : u.grownBy u' v.ownBlock) : KeepR w l u' := by
  refine ⟨h.bel.grown hg h.bel.size (own_base ho), fun x hx => ⟨(h.blk x hx).1, ?_⟩, h.apart⟩
  have hb := (h.blk x hx).2
  refine (hg.block x.1 hb.lt fun e => ?_).trans hb
  rcases ho.2 with ⟨rfl, _⟩ | ⟨g, cap, cur, rfl, _, h3, _⟩
  · simp [Value.ownBlock] at e
  · simp only [Value.ownBlock, Option.some.injEq] at e
    unfold Blk at hb
    rw [e, h3] at hb
    injection hb with hb
    injection hb with _ hb
    exact ht x hx hb.symm
/-! ### What is free. -/
/-- What the others moved to k. -/
def colL (R : List Int) (k : Nat) : List Int := (List.range 16).map fun j => R.getD (32 + j * 16 + k) 0
theorem colL_length (R : List Int) (k : Nat) : (colL R k).length = 16 := by simp [colL]
theorem colL_get {R : List Int} {k j : Nat} (h : j < 16) : (colL R k).getD j 0 = R.getD (32 + j * 16 + k) 0 := by simp [colL, List.getD, h]
/-- What is added up for what is free at k. -/
def fl (R : List Int) (k : Nat) : List Int := (R.getD k 0 :: colL R k) ++ (negs [R.getD (16 + k) 0] ++ negs (seg R (32 + k * 16) 16))
def freeN (R : List Int) (k : Int) : Int := if repB k then sumN (fl R k.toNat) else 0
def freeE (R : List Int) (k : Int) : Int := if repB k then sumE (fl R k.toNat) else 1
theorem free_yes {R : List Int} {k : Nat} (h : k < 16) : freeN R k = sumN (fl R k) ∧ freeE R k = sumE (fl R k) := by
  have : repB (k : Int) = true := repB_iff.2 (by omega)
  simp [freeN, freeE, this]

theorem set_three (f : Nat → Value) (x y z : Value) : (((Array.map f (Array.range 3)).setIfInBounds 0 x).setIfInBounds 1 y).setIfInBounds 2 z = #[x, y, z] := by
  apply Array.ext
  · simp
  · intro i h1 h2
    have : i = 0 ∨ i = 1 ∨ i = 2 := by simp at h2; omega
    rcases this with rfl | rfl | rfl <;> simp

theorem zip_splice : ∀ (zs Z : List Int) (off k : Nat), List.foldl (fun (cs : Array Value) (p : Value × Nat) => cs.setIfInBounds (off + p.2) p.1) (vals Z).toArray ((vals zs).zipIdx k) = (vals (splice Z (off + k) zs)).toArray
  | [], _, _, _ => rfl
  | z :: zs, Z, off, k => by
    have h := zip_splice zs (Z.set (off + k) z) off (k + 1)
    simp only [vals, List.map_cons, List.zipIdx_cons, List.foldl_cons, splice]
    have e : (Array.mk (List.map (Value.int .i64) Z)).setIfInBounds (off + k) (.int .i64 z) = (vals (Z.set (off + k) z)).toArray := by
      rw [← vals_set]; simp [vals]
    rw [e]
    exact h
theorem fold_splice (zs Z : List Int) (off : Nat) : (vals zs).toArray.zipIdx.foldl (fun cs x => match x with | (c, j) => cs.setIfInBounds (off + j) c) (vals Z).toArray = (vals (splice Z off zs)).toArray := by
  have := zip_splice zs Z off 0
  rw [Nat.add_zero] at this
  rw [← this]
  simp
theorem zero_rows (n m : Nat) (hm : 0 < m) : (Array.range (n * m)).map (fun i => (vals (zer m)).toArray[i % (vals (zer m)).toArray.size]!) = (vals (zer (n * m))).toArray := by
  apply Array.ext
  · simp [vals_length, zer_length]
  · intro i h1 h2
    have h3 : i % m < m := Nat.mod_lt _ hm
    simp [vals, zer, h3]
theorem vec_info3 : (Tryz.prog.info? 33).map (fun i => (i.zero, i.size, i.bytes)) = some (some (.agg (vals (zer 16)).toArray), 16, 128) := by kernel_rfl
theorem run_buildv2 (xs ys : List Int) (hx : xs.length = 16) (hy : ys.length = 16) (u : World) : (Instr.buildSlice 175 2 #[(0, .agg (vals xs).toArray), (1, .agg (vals ys).toArray)]).run Tryz.prog u = .ok (.slice (some ⟨u.heap.size, 0, none⟩) 2 2) (u.alloc (.cells (vals (splice (splice (zer 32) 0 xs) 16 ys)).toArray 33)) := by
  obtain ⟨i0, hi0, hz0, hz1, hz2⟩ := info_parts vec_info3
  have hzr := zero_rows 2 16 (by omega)
  have hf : Instr.fill (fun i => some (i * 16, 16)) ((Array.range (2 * 16)).map (fun i => (vals (zer 16)).toArray[i % (vals (zer 16)).toArray.size]!)) [(0, .agg (vals xs).toArray), (1, .agg (vals ys).toArray)] = some (vals (splice (splice (zer 32) 0 xs) 16 ys)).toArray := by
    rw [hzr]
    simp only [Instr.fill, Value.cells, List.size_toArray, vals_length, zer_length, hx, hy]
    rw [if_neg (by simp), fold_splice xs (zer (2 * 16)) (0 * 16)]
    simp only [List.size_toArray, vals_length, splice_length, zer_length]
    rw [if_neg (by simp), fold_splice ys _ (1 * 16)]
  simp [] at hf
  simp [Instr.buildSlice, run_underlying Tryz.underlying175, sizeOf, typeInfo, zeroValue, hi0, hz0, hz1, Value.cells, newRow, newObj, hf]
  rfl

theorem wp_buildv2 {o : Oper} {a : Act} {w u : World} {l : List (Nat × TypeId × List Int)} {K : Act → World → Prop} {Q : Exit → Act → World → Prop} (hk : KeepR w l u) (x y : Operand) (ho : o.op = .buildSlice 175 2 #[(0, x), (1, y)]) {xs ys : List Int} (hx : a.eval x = .agg (vals xs).toArray) (hy : a.eval y = .agg (vals ys).toArray) (lx : xs.length = 16) (ly : ys.length = 16)
    (h : ∀ b u', KeepR w ((b, 33, splice (splice (zer 32) 0 xs) 16 ys) :: l) u' → Below u.heap.size u u' → K (a.put o.dst (.slice (some ⟨b, 0, none⟩) 2 2)) u') : o.wp Tryz.prog a u K Q := by
  unfold Oper.wp execOp
  simp only [ho, List.map_toArray, List.map_cons, List.map_nil, hx, hy, Sem.run_bind, Sem.run_pure, Result.andThen_ok, run_buildv2 xs ys lx ly]
  exact h _ _ (hk.new rfl) (box u _ _).2
theorem KeepR.grownE {w u u' : World} {l : List (Nat × TypeId × List Int)} (h : KeepR w l u) {e : TypeId} {s : Nat} {v : Value} {n : Nat} {xs : List Value} (ho : u.ownsRow w.heap.size e s v n xs) (ht : ∀ x ∈ l, x.2.1 ≠ e) (hg : u.grownBy u' v.ownBlock) : KeepR w l u' := by
  refine ⟨h.bel.grown hg h.bel.size (own_base ho), fun x hx => ⟨(h.blk x hx).1, ?_⟩, h.apart⟩
  have hb := (h.blk x hx).2
  refine (hg.block x.1 hb.lt fun e => ?_).trans hb
  rcases ho.2 with ⟨rfl, _⟩ | ⟨g, cap, cur, rfl, _, h3, _⟩
  · simp [Value.ownBlock] at e
  · simp only [Value.ownBlock, Option.some.injEq] at e
    unfold Blk at hb
    rw [e, h3] at hb
    injection hb with hb
    injection hb with _ hb
    exact ht x hx hb.symm
/-- A row of vectors that grew by a part of a kept block. -/
theorem append_vecs {w u : World} {b1 b : Nat} {t : TypeId} {xs R : List Int} {o n m : Nat} (h1 : Blk u b1 33 xs) (hb : w.heap.size ≤ b1) (hx : xs.length = n * 16) (hR : Blk u b t R) (hr : o + m * 16 ≤ R.length) (hn : n + m ≤ 1000) (hbase : w.heap.size ≤ u.heap.size) (c : Nat) (ty : TypeId) :
    ∃ v' u', (Builtin.append_ #[175, 175] ty #[.slice (some ⟨b1, 0, none⟩) n n, .slice (some ⟨b, o, none⟩) m c]).run Tryz.prog u = .ok v' u' ∧ u'.ownsRow w.heap.size 33 16 v' (n + m) (vals (xs ++ seg R o (m * 16))) ∧ u.grownBy u' (some b1) ∧ u.ownsRow w.heap.size 33 16 (.slice (some ⟨b1, 0, none⟩) n n) n (vals xs) := by
  obtain ⟨i0, hi0, hz0, hz1, hz2⟩ := info_parts vec_info3
  have ho : u.ownsRow w.heap.size 33 16 (.slice (some ⟨b1, 0, none⟩) n n) n (vals xs) :=
    ⟨by rw [vals_length, hx], .inr ⟨b1, n, _, rfl, hb, h1, Nat.le_refl _, by simp only [maxLen]; omega, by simp [vals_length, hx], by simp [vals_length, hx, List.take_of_length_le]⟩⟩
  obtain ⟨v', u', h2, h3, h4, _, _⟩ := run_append_own_at (P := Tryz.prog) u w.heap.size 175 ty 33 i0 (.agg (vals (zer 16)).toArray) 16 128 Tryz.underlying175 hi0 hz0 hz1 hz2 rfl (by omega)
    _ n (vals xs) ho ⟨b, o, none⟩ m c (vals (seg R o (m * 16))) (by rw [vals_length, seg_length hr])
    (fun j v hv => by rw [Addr.add_mid]; exact hR.seg hr j v hv) (vals_one _) (by simp only [maxLen]; omega) (by omega) hbase
  exact ⟨v', u', h2, by rw [vals_append]; exact h3, h4, ho⟩
theorem own_range {w : World} {base : Nat} {e : TypeId} {v : Value} {n : Nat} {xs : List Int} (h : w.ownsRow base e 16 v n (vals xs)) (hn : 0 < n) : ∃ b c, v = .slice (some ⟨b, 0, none⟩) n c ∧ base ≤ b ∧ w.rangeAt b 0 (vals xs) := by
  rcases h.2 with ⟨_, h0⟩ | ⟨g, cap, cur, rfl, h2, _⟩
  · omega
  · refine ⟨g, cap, rfl, h2, fun j v hv => ?_⟩
    have hj : j < n * 16 := by rw [← h.1]; exact (List.getElem?_eq_some_iff.1 hv).1
    rw [Nat.zero_add, h.cellAt j hj]; exact hv
theorem range_seg {w : World} {b : Nat} {R : List Int} (h : w.rangeAt b 0 (vals R)) {o n : Nat} (hr : o + n ≤ R.length) : w.rangeAt b o (vals (seg R o n)) := fun j v hv => by
  obtain ⟨hj, rfl⟩ := vals_at hv
  rw [seg_length hr] at hj
  have := h (o + j) (.int .i64 (R.getD (o + j) 0)) (vals_get (by omega))
  rw [Nat.zero_add] at this
  rw [this, seg_get hj]
theorem two_segs {R : List Int} (hR : R.length = 288) : splice (splice (zer 32) 0 (seg R 0 16)) 16 (seg R 16 16) ++ seg R 32 (16 * 16) = R := by
  have l1 : (seg R 0 16).length = 16 := seg_length (by omega)
  have l2 : (seg R 16 16).length = 16 := seg_length (by omega)
  have l3 : (seg R 32 (16 * 16)).length = 256 := seg_length (by omega)
  have l4 : (splice (splice (zer 32) 0 (seg R 0 16)) 16 (seg R 16 16)).length = 32 := by rw [splice_length, splice_length, zer_length]
  refine ext_get (by rw [List.length_append, l4, l3, hR]) fun k hk => ?_
  rw [List.length_append, l4, l3] at hk
  by_cases h1 : k < 32
  · rw [List.getD, List.getElem?_append_left (by omega), ← List.getD, splice_get _ _ _ _ (by rw [splice_length, zer_length]; omega), splice_get _ _ _ _ (by rw [zer_length]; omega), l1, l2]
    by_cases h2 : k < 16
    · rw [if_neg (by omega), if_pos (by omega), seg_get (by omega)]; congr 1; omega
    · rw [if_pos (by omega), seg_get (by omega)]; congr 1; omega
  · rw [List.getD, List.getElem?_append_right (by omega), ← List.getD, l4, seg_get (by omega)]; congr 1; omega

set_option maxHeartbeats 1000000 in
theorem vectors_any (R : List Int) (hR : R.length = 288) (w : World) :
    Calls Tryz.prog 166 #[.agg (vals R).toArray] w fun e w' => ∃ b c, e = .returned (.slice (some ⟨b, 0, none⟩) 18 c) ∧ w'.rangeAt b 0 (vals R) ∧ Below w.heap.size w w' := by
  have H2 := Lib.hid (two_segs hR)
  have HR := Lib.hid hR; clear hR
  have HK := Lib.hid (KeepR.start w)
  go_enter Tryz.func166, Tryz.ntmps166
  go_wp2_with (first
    | (with_reducible refine box_new HK.out rfl _ rfl rfl ?_; intro b u hk hb; clear hb; clear HK; have HK := Lib.hid hk; clear hk))
  refine Draws.start (S := fun u => KeepR w [(b, 36, R)] u) (n := 9) 9 rfl (by kernel_rfl) ?_
  have HS := Lib.hid ((HK.out.drew : (fun u => KeepR w [(b, 36, R)] u) _))
  refine Draws.take 0 (v := ?v0) HS.out rfl (by kernel_rfl) (fun _ _ _ h => h) (Or.inl ⟨rfl, ?h0⟩) ?r0
  case h0 => intro w' hw'; go_simp; (try with_reducible rfl)
  (try simp only [Act.put, lsA, lsB, lsC])
  refine Draws.take 1 HS.out rfl (by kernel_rfl) (fun _ _ _ h => h) (yield_part (fun _ h => h) 0 16 Tryz.underlying33 rfl vec_info rfl _ rfl rfl rfl (by have := HR.out; omega)) ?_
  (try simp only [Act.put, lsA, lsB, lsC])
  refine Draws.take 2 (v := ?v2) HS.out rfl (by kernel_rfl) (fun _ _ _ h => h) (Or.inl ⟨rfl, ?h2⟩) ?r2
  case h2 => intro w' hw'; go_simp; (try with_reducible rfl)
  (try simp only [Act.put, lsA, lsB, lsC])
  refine Draws.take 3 HS.out rfl (by kernel_rfl) (fun _ _ _ h => h) (yield_part (fun _ h => h) 0 16 Tryz.underlying33 rfl vec_info rfl _ rfl rfl rfl (by have := HR.out; omega)) ?_
  (try simp only [Act.put, lsA, lsB, lsC])
  refine Draws.take 5 (v := ?v5) HS.out rfl (by kernel_rfl) (fun _ _ _ h => h) (Or.inl ⟨rfl, ?h5⟩) ?r5
  case h5 => intro w' hw'; go_simp; (try with_reducible rfl)
  (try simp only [Act.put, lsA, lsB, lsC])
  refine Draws.take 6 (v := ?v6) HS.out rfl (by kernel_rfl) (fun _ _ _ h => h) (Or.inl ⟨rfl, ?h6⟩) ?r6
  case h6 => intro w' hw'; go_simp; (try with_reducible rfl)
  (try simp only [Act.put, lsA, lsB, lsC])
  refine Draws.does 4 rfl (by kernel_rfl) rfl (fun K hK => ?_)
  refine wp_buildv2 HS.out _ _ rfl rfl rfl (seg_length (by have := HR.out; omega)) (seg_length (by have := HR.out; omega)) ?_
  intro b1 u hk hb
  have HX := Lib.hid hk
  refine hK.out _ _ (fun _ => hk.tail) ?_
  clear hK K
  have hs : (fun u => KeepR w [(b, 36, R)] u) u := hk.tail
  clear HS
  have HS := Lib.hid hs; clear hs
  (try simp only [Act.put, lsA, lsB, lsC])
  clear hk hb
  obtain ⟨v', u', h1, h2, h3, h4⟩ := append_vecs (w := w) (o := 32) (n := 2) (m := 16) (HX.out.get 0 rfl) (HX.out.blk _ (List.mem_cons_self ..)).1 (by rw [splice_length, splice_length, zer_length]) (HX.out.get 1 rfl) (by have := HR.out; omega) (by omega) HX.out.bel.size 16 175
  have hk := HS.out.grownE h4 (by simp) h3
  rw [H2.out] at h2
  have HA := Lib.hid h1; have HO := Lib.hid h2
  clear h1 h2 h3 h4 HX
  refine Draws.does 7 rfl (by kernel_rfl) rfl (fun K hK => ?_)
  refine Lib.wp_append_run _ _ _ _ _ rfl _ _ rfl rfl _ _ HA.out ?_
  refine hK.out _ _ (fun _ => hk) ?_
  clear hK K
  have hs : (fun u => KeepR w [(b, 36, R)] u) u' := hk
  clear HS
  have HS := Lib.hid hs; clear hs
  (try simp only [Act.put, lsA, lsB, lsC])
  clear hk
  refine Draws.take 8 (v := ?v8) HS.out rfl (by kernel_rfl) (fun _ _ _ h => h) (Or.inl ⟨rfl, ?h8⟩) ?r8
  case h8 => intro w' hw'; go_simp; (try with_reducible rfl)
  (try simp only [Act.put, lsA, lsB, lsC])
  refine Draws.done (by kernel_rfl) ?_
  go_wp2
  go_ret
  obtain ⟨b2, c, hv, _, hrg⟩ := own_range HO.out (by omega)
  exact ⟨b2, ⟨c, congrArg Ending.returned hv⟩, hrg, HS.out.bel⟩

/-- A row of vectors. -/
structure RowAt (u : World) (b : Nat) (R : List Int) : Prop where
  rng : u.rangeAt b 0 (vals R)
  lt : b < u.heap.size
theorem row_at {u : World} {b : Nat} {R : List Int} (h : u.rangeAt b 0 (vals R)) (hR : R.length = 288) : RowAt u b R :=
  ⟨h, cell_lt (a := ⟨b, 0 + 0, none⟩) (h 0 _ (vals_get (by omega)))⟩
theorem RowAt.call {u u' : World} {b : Nat} {R : List Int} (h : RowAt u b R) (hb : Below u.heap.size u u') : RowAt u' b R := ⟨range_below h.rng hb h.lt, Nat.lt_of_lt_of_le h.lt hb.size⟩
theorem RowAt.drew {u : World} {b : Nat} {R : List Int} (h : RowAt u b R) : RowAt u.drew b R := ⟨h.rng, h.lt⟩
theorem RowAt.other {u u' : World} {b b' : Nat} {R : List Int} (h : RowAt u b R) (hs : ∀ k, k ≠ b' → u'.heap[k]? = u.heap[k]?) (hne : b ≠ b') : RowAt u' b R := by
  have e := hs b hne
  refine ⟨fun j v hv => ?_, ?_⟩
  · have := h.rng j v hv
    simp only [World.cell?, e] at this ⊢
    exact this
  · have h1 := h.lt
    rcases Nat.lt_or_ge b u'.heap.size with h2 | h2
    · exact h2
    · rw [Array.getElem?_eq_none h2, Array.getElem?_eq_getElem h1] at e; cases e
theorem load_row {ops : Array Oper} {rest : List Oper} {o : Oper} {a : Act} {u : World} {Q : Exit → Act → World → Prop} {b : Nat} {R : List Int} (hk : RowAt u b R) (hgd : o.guard = none) (x : Operand) (ho : o.op = .load 33 x) {off : Nat} (hx : a.eval x = .pointer (some ⟨b, off, none⟩)) (hr : off + 16 ≤ R.length)
    (h : wpList Tryz.prog ops Q rest (a.put o.dst (.agg (vals (seg R off 16)).toArray)) u) : wpList Tryz.prog ops Q (o :: rest) a u :=
  wpList_load_mid hgd _ x ho b off hx _ _ (range_seg hk.rng hr) Tryz.underlying33 rfl (by rw [vals_length, seg_length hr]; exact vec_info) h

/-- May rights be? -/
def rightsB (R : List Int) : Bool := ((List.range 18).all fun j => rightB (seg R (j * 16) 16)) && ((List.range 16).all fun j => R.getD (32 + j * 16 + j) 0 == 0)
theorem rightsB_iff {R : List Int} : rightsB R = true ↔ (∀ j, j < 18 → rightB (seg R (j * 16) 16) = true) ∧ ∀ j, j < 16 → R.getD (32 + j * 16 + j) 0 = 0 := by
  simp [rightsB]
theorem rightsB_vec {R : List Int} {j : Nat} (hj : j < 18) (h : rightB (seg R (j * 16) 16) = false) : false = rightsB R := by
  cases hr : rightsB R with
  | false => rfl
  | true => rw [(rightsB_iff.1 hr).1 j hj] at h; cases h
theorem rightsB_own {R : List Int} {j : Nat} (hj : j < 16) (h : R.getD (32 + j * 16 + j) 0 ≠ 0) : false = rightsB R := by
  cases hr : rightsB R with
  | false => rfl
  | true => exact absurd ((rightsB_iff.1 hr).2 j hj) h

theorem right_r (R : List Int) (hR : R.length = 288) (w : World) :
    Calls Tryz.prog 139 #[.agg (vals R).toArray] w fun e w' => e = .returned (.bool (rightsB R)) ∧ Below w.heap.size w w' := by
  have HR := Lib.hid hR; clear hR
  have HK := Lib.hid (KeepR.start w)
  have HV := Lib.hid True.intro
  go_enter Tryz.func139, Tryz.ntmps139
  go_wp2_with (first
    | (with_reducible refine box_new HK.out rfl _ rfl rfl ?_; intro b u hk hb; clear hb; clear HK; have HK := Lib.hid hk; clear hk)
    | (with_reducible refine load_all HK.out 0 288 Tryz.underlying36 rfl r_info rfl _ rfl rfl rfl HR.out ?_)
    | (go_at_call 166; (with_reducible refine (vectors_any R HR.out _).mono ?_); rintro e u ⟨b2, c2, rfl, hv, hb⟩; have hk := HK.out.call hb; clear hb HV; have HV := Lib.hid (row_at hv HR.out); clear hv; clear HK; have HK := Lib.hid hk; clear hk))
  go_loopw [10] (fun i wr => ∃ k : Nat, k ≤ 18 ∧ i = .int .i64 k ∧ KeepR w [(b, 36, R)] wr ∧ RowAt wr b2 R ∧ ∀ j, j < k → rightB (seg R (j * 16) 16) = true) (fun i _ => 18 - (intOf i).toNat)
  case atStart => exact ⟨0, by omega, rfl, HK.out, HV.out, fun j hj => by omega⟩
  case round =>
    obtain ⟨k, hk0, rfl, hk, hv, hD⟩ := hrel
    clear HK HV
    have HK := Lib.hid hk; have HV := Lib.hid hv; have HD := Lib.hid hD
    clear hk hv hD
    by_cases hlt : k < 18
    · have HL := Lib.hid (seg_length (R := R) (o := k * 16) (n := 16) (by have := HR.out; omega))
      have i1 : (0 : Int) ≤ (k : Int) := by omega
      have i2 : (k : Int) < 18 := by omega
      have hne := Lib.hid True.intro
      cases hrt : rightB (seg R (k * 16) 16) with
      | false =>
        have hrc := right_any (seg R (k * 16) 16) HL.out
        rw [hrt] at hrc
        have HF := Lib.hid (rightsB_vec hlt hrt)
        clear hrt
        go_wp2_with (first
          | (with_reducible refine alloc_zero HK.out 16 v_zero rfl rfl ?_; intro b4 u hn hk hb; clear hne; have hne := Lib.hid (Nat.ne_of_lt (hn ▸ HV.out.lt)); have hv := HV.out.call hb; clear hb hn HV; have HV := Lib.hid hv; clear hv; clear HK; have HK := Lib.hid hk; clear hk)
          | (with_reducible refine store_all HK.out 0 16 vec_info rfl rfl _ _ rfl rfl rfl rfl HL.out (zer_length 16) ?_; intro u hk hs; have hv := HV.out.other hs hne.out; clear hs HV; have HV := Lib.hid hv; clear hv; simp only [List.set_cons_zero] at hk; clear HK; have HK := Lib.hid hk; clear hk)
          | (with_reducible refine load_row HV.out rfl _ rfl rfl (by have := HR.out; omega) ?_)
          | (with_reducible refine load_all HK.out 0 16 Tryz.underlying33 rfl vec_info rfl _ rfl rfl rfl HL.out ?_)
          | (go_at_call 167; (with_reducible refine (hrc _).mono ?_); rintro e u ⟨rfl, hb⟩; have hk := HK.out.call hb; have hv := HV.out.call hb; clear hb HV; have HV := Lib.hid hv; clear hv; clear HK; have HK := Lib.hid hk; clear hk))
        go_ret
        exact ⟨congrArg (fun b => Ending.returned (.bool b)) HF.out, HK.out.bel⟩
      | true =>
        have hrc := right_any (seg R (k * 16) 16) HL.out
        rw [hrt] at hrc
        have HT := Lib.hid hrt
        clear hrt
        go_wp2_with (first
          | (with_reducible refine alloc_zero HK.out 16 v_zero rfl rfl ?_; intro b4 u hn hk hb; clear hne; have hne := Lib.hid (Nat.ne_of_lt (hn ▸ HV.out.lt)); have hv := HV.out.call hb; clear hb hn HV; have HV := Lib.hid hv; clear hv; clear HK; have HK := Lib.hid hk; clear hk)
          | (with_reducible refine store_all HK.out 0 16 vec_info rfl rfl _ _ rfl rfl rfl rfl HL.out (zer_length 16) ?_; intro u hk hs; have hv := HV.out.other hs hne.out; clear hs HV; have HV := Lib.hid hv; clear hv; simp only [List.set_cons_zero] at hk; clear HK; have HK := Lib.hid hk; clear hk)
          | (with_reducible refine load_row HV.out rfl _ rfl rfl (by have := HR.out; omega) ?_)
          | (with_reducible refine load_all HK.out 0 16 Tryz.underlying33 rfl vec_info rfl _ rfl rfl rfl HL.out ?_)
          | (go_at_call 167; (with_reducible refine (hrc _).mono ?_); rintro e u ⟨rfl, hb⟩; have hk := HK.out.call hb; have hv := HV.out.call hb; clear hb HV; have HV := Lib.hid hv; clear hv; clear HK; have HK := Lib.hid hk; clear hk))
        go_roundw
        case rel => exact ⟨k + 1, by omega, by go_num, HK.out.tail, HV.out, fun j hj => by
          by_cases hjk : j = k
          · rw [hjk]; exact HT.out
          · exact HD.out j (by omega)⟩
        case measure => simp [intOf]; omega
    · obtain rfl : k = 18 := by omega
      simp only [show ((18 : Nat) : Int) = 18 from rfl]
      have HL := Lib.hid (seg_length (R := R) (o := 32) (n := 256) (by have := HR.out; omega))
      go_wp2_with (first
        | (with_reducible refine load_part HK.out 0 256 Tryz.underlying34 rfl m_info rfl _ rfl rfl rfl (by have := HR.out; omega) ?_))
      go_loopw [20] (fun i wr => ∃ m : Nat, m ≤ 16 ∧ i = .int .i64 m ∧ KeepR w [(b, 36, R)] wr ∧ ∀ j, j < m → R.getD (32 + j * 16 + j) 0 = 0) (fun i _ => 16 - (intOf i).toNat)
      case atStart => exact ⟨0, by omega, rfl, HK.out, fun j hj => by omega⟩
      case round =>
        obtain ⟨m, hm, rfl, hk, hE⟩ := hrel
        clear HK HV
        have HK := Lib.hid hk; have HE := Lib.hid hE
        clear hk hE
        by_cases hlt : m < 16
        · have hix : ∀ W : World, (Instr.index 34 (.agg (vals (seg R 32 256)).toArray) (.int .i64 (m : Int))).run Tryz.prog W = .ok (.agg (vals (seg (seg R 32 256) (m * 16) 16)).toArray) W := fun W => index_row HL.out hlt W
          rw [show seg (seg R 32 256) (m * 16) 16 = seg R (32 + m * 16) 16 from seg_seg (by omega)] at hix
          have hrl : (seg R (32 + m * 16) 16).length = 16 := seg_length (by have := HR.out; omega)
          have hrg : (seg R (32 + m * 16) 16).getD m 0 = R.getD (32 + m * 16 + m) 0 := seg_get hlt
          generalize hx : R.getD (32 + m * 16 + m) 0 = x at hrg
          have HL2 := Lib.hid hrl; have HG := Lib.hid hrg; have HX := Lib.hid hx
          clear hrl hrg hx
          have j1 : (0 : Int) ≤ (m : Int) := by omega
          have j2 : (m : Int) < 16 := by omega
          by_cases hz : x = 0
          · subst hz
            go_wp2_with (first
              | (with_reducible refine alloc_zero HK.out 16 v_zero rfl rfl ?_; intro b u hn hk hb; clear hn; clear hb; clear HK; have HK := Lib.hid hk; clear hk)
              | (with_reducible refine store_all HK.out 0 16 vec_info rfl rfl _ _ rfl rfl rfl rfl HL2.out (zer_length 16) ?_; intro u hk hs; clear hs; simp only [List.set_cons_zero] at hk; have hc1 := (hk.get 0 rfl).cell (k := m) (by rw [HL2.out]; omega); rw [HG.out] at hc1; clear HK; have HK := Lib.hid hk; clear hk))
            go_roundw
            case rel => exact ⟨m + 1, by omega, by go_num, HK.out.tail, fun j hj => by
              by_cases hjk : j = m
              · rw [hjk]; exact HX.out
              · exact HE.out j (by omega)⟩
            case measure => simp [intOf]; omega
          · have HF := Lib.hid (rightsB_own (R := R) hlt (by rw [HX.out]; exact hz))
            go_wp2_with (first
              | (with_reducible refine alloc_zero HK.out 16 v_zero rfl rfl ?_; intro b u hn hk hb; clear hn; clear hb; clear HK; have HK := Lib.hid hk; clear hk)
              | (with_reducible refine store_all HK.out 0 16 vec_info rfl rfl _ _ rfl rfl rfl rfl HL2.out (zer_length 16) ?_; intro u hk hs; clear hs; simp only [List.set_cons_zero] at hk; have hc1 := (hk.get 0 rfl).cell (k := m) (by rw [HL2.out]; omega); rw [HG.out] at hc1; clear HK; have HK := Lib.hid hk; clear hk))
            go_ret
            exact ⟨congrArg (fun b => Ending.returned (.bool b)) HF.out, HK.out.bel⟩
        · have ht : true = rightsB R := (rightsB_iff.2 ⟨fun j hj => HD.out j (by omega), fun j hj => HE.out j (by omega)⟩).symm
          have HT := Lib.hid ht; clear ht
          go_wp2
          go_ret
          exact ⟨congrArg (fun b => Ending.returned (.bool b)) HT.out, HK.out.bel⟩

/-- Why replica k may not do n. -/
def coverE (R : List Int) (k n : Int) : Int := if freeE R k = 0 ∧ freeN R k < n then 8 else freeE R k
def preU (R : List Int) (k n : Int) : Int := if repB k = true ∧ 0 ≤ n then coverE R k n else 1
def useE (R : List Int) (k n : Int) : Int := if preU R k n = 0 then grE R 16 k n else preU R k n
def useA (R : List Int) (k n : Int) : List Int := if preU R k n = 0 then grA R 16 k n else zer 288
theorem useA_length {R : List Int} (h : R.length = 288) (k n : Int) : (useA R k n).length = 288 := by unfold useA; split; exact grA_length h _ _ _; exact zer_length 288
theorem use_yes {R : List Int} {k n : Int} (h : preU R k n = 0) : useE R k n = grE R 16 k n ∧ useA R k n = grA R 16 k n := by simp [useE, useA, h]

theorem grA_ok {R : List Int} {o : Nat} {k n : Int} (h : grE R o k n = 0) : grA R o k n = splice R o (growL (seg R o 16) k n) := by unfold grA; rw [h, toldR_ok]

theorem KeepR.sub {w u : World} {l l' : List (Nat × TypeId × List Int)} (h : KeepR w l u) (hs : l'.Sublist l) : KeepR w l' u :=
  ⟨h.bel, fun x hx => h.blk x (hs.subset hx), h.apart.sublist (hs.map _)⟩

end Go.Proofs.YtgblnlpfgdbnnaaGreat
