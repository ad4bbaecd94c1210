/- Plain arithmetic of layer 1 (num): which numbers may be, and what a sum, a difference and a product tell. No program is spoken of here. Contracts of num.Is and num.Add: each tells what the plain arithmetic tells, and leaves the world as it was. A region that draws its order, whose first operations read, call and make memory while S is kept, and whose last ones (stores) wait for all of the first: an operation that yields the same wherever S is kept may be taken first. Ints in memory: lists of ints as the cells that hold them, blocks that are kept while calls make memory, and what the operations on them do.; Plain arithmetic of layer 6 (hold): which holds may be, and what finding, adding up, reserving, ending, letting go and joining tell. No program is spoken of here.; Holds in memory: what the operations on them do; when two are the same; slices of holds that come in, and rows of holds that a call makes.; Rows of holds: what append does to one, and what a literal and a slice expression make.; Vectors (arrays of 16 ints): the lists that they are, the cells that hold them, and what the operations on them do. A region that draws its order, whose operations read what is kept and whose callees only make memory of their own: one walk in the text's order. Several vectors that are kept, each in a block of its own, while calls make memory; and what joining, and being over, hang on. Contracts of vec.Right, vec.Join and vec.Over. Contracts of the document's Over, Right and Join of layer 2. Contracts of vec.Sum and vec.Grow, and of the document's Sum and Grow of layer 2. What a law of layer 2 needs: vectors that come in; 'awake'. Rows of ints: what append does to one, and what a slice expression reads.; Rights (288 ints: Given, Used, then 16 rows of what each moved): the lists that they are, the cells that hold them, their parts, and what the operations on them do. Rights: when two are the same; a row of what was moved; rights that come in. Contracts of rights.told, rights.isReplica, rights.Give and the document's Give. Contracts of rights.Give and the document's Give. Contracts of rights.less, slices.Grow and slices.Concat of ints. Contracts of slices.Grow and slices.Concat of ints. A contract of rights.Free. A contract of rights.Free. Contracts of rights.Total, and the document's Free and Total. A contract of the document's Free. Aggregates that are filled with parts; rows of vectors; a contract of rights.vectors. A contract of rights.vectors.; Contracts of rights.Right and the document's Right. A contract of the document's Right. Contracts of rights.covered, rights.Use and rights.Move. Contracts of the document's Use and Move. Contracts of rights.Over and of rights.Join's own closure. Contracts of rights.Join and its closure. A contract of rights.Join. Rights, built of two vectors. Contracts of the document's Join and Over.; Counters (579 ints: Init, Low, High, Down, Up): what the document asks of them, in plain lists. No walk.; Plain arithmetic of layer 5 (lock): which lock is behind which, and what joining, writing and passing on tell. No program is spoken of here.; A field's cells (its name, kind, epoch, counter, lock, and the slice of its holds), and what the operations on kept blocks do: boxes, zeros, loads and stores of a cell or of a part.; Contracts of counter.Join, Room, between and New, and of the document's Join and New. -/
import Derived.Test.YtgblnlpfgdbnnaaGreatRows
import Derived.Test.YtgblnlpfgdbnnaaGreatZ05
import Derived.Test.YtgblnlpfgdbnnaaGreatZ08
namespace Go.Proofs.YtgblnlpfgdbnnaaGreat
open Go.ChangeShapes Go.WideShapes Go.ChangeAt Go.RowKit

theorem Blk.setRow {w : World} {b : Nat} {t : TypeId} {zs : List Int} (h : Blk w b t zs) (ys : List Int) : Blk (w.setRow b (vals ys).toArray) b t ys := setRow_heap w b _ _ t _ h
theorem below_setRow {B : Nat} {a w : World} (h : Below B a w) {g : Nat} (hg : B ≤ g) (cs : Array Value) : Below B a (w.setRow g cs) :=
  h.trans ⟨rfl, rfl, rfl, by simp, fun k hk => _root_.Go.setRow_other w g k cs (by omega)⟩
theorem KeepR.setRow {w u : World} {l : List (Nat × TypeId × List Int)} (h : KeepR w l u) (i : Nat) {b : Nat} {t : TypeId} {R : List Int} (hi : l[i]? = some (b, t, R)) (zs : List Int) : KeepR w (l.set i (b, t, zs)) (u.setRow b (vals zs).toArray) :=
  have h1 := h.blk _ (List.mem_of_getElem? hi)
  h.put i hi (h1.2.setRow zs) (fun k hk => _root_.Go.setRow_other u b k _ hk) (below_setRow h.bel h1.1 _)
theorem results_r {fn : Func} {p : Tmp} {ty : TypeId} {n : Nat} {d : TypeDesc} (h : fn.results = #[.cell p ty]) (hu : Tryz.prog.underlying ty = some d) (hd : d.isRow = true) (hs : (Tryz.prog.info? ty).map (·.size) = some n) (tmps : Array Value) {w u : World} {l : List (Nat × TypeId × List Int)} (hk : KeepR w l u) (i : Nat) {b : Nat} {R : List Int}
    (hi : l[i]? = some (b, ty, R)) (hp : tmps.getD p undef = .pointer (some ⟨b, 0, none⟩)) (hl : R.length = n) : (results fn tmps).run Tryz.prog u = .ok (.agg (vals R).toArray) u :=
  results_cell_row h tmps u b _ _ (0, 0) d hp (hk.get i hi) hu (by cases d <;> simp_all) (by rw [List.size_toArray, vals_length, hl]; exact hs)

end Go.Proofs.YtgblnlpfgdbnnaaGreat

namespace Go.Proofs.YtgblnlpfgdbnnaaGreat

theorem AH.total (a b : Ho) : AH a b ∨ AH b a ∨ SN a b := by unfold AH SN; omega
/-! ### Which lists may be. -/
theorem mem_getD {l : List Ho} {x : Ho} (h : x ∈ l) : ∃ i, i < l.length ∧ l.getD i z5 = x := by
  obtain ⟨i, hi, e⟩ := List.getElem_of_mem h
  exact ⟨i, hi, by rw [getD_get hi, e]⟩
theorem rights_iff {l : List Ho} : rightsL l = true ↔ l.length ≤ 16 ∧ (∀ h ∈ l, rightH h = true) ∧ l.Pairwise AH := by
  simp only [rightsL, Bool.and_eq_true, decide_eq_true_eq, upTo_iff]
  refine ⟨fun ⟨h1, h2⟩ => ⟨h1, fun x hx => ?_, ?_⟩, fun ⟨h1, h2, h3⟩ => ⟨h1, fun i hi => ?_⟩⟩
  · obtain ⟨i, hi, rfl⟩ := mem_getD hx
    have := h2 i hi
    simp only [okAt, Bool.and_eq_true] at this
    exact this.1
  · have hs : ∀ (j i : Nat), i < j → j < l.length → AH (l.getD i z5) (l.getD j z5) := by
      intro j
      induction j with
      | zero => intro i h; omega
      | succ j ih =>
        intro i hi hj
        have := h2 (j + 1) hj
        simp only [okAt, Bool.and_eq_true, Nat.add_sub_cancel, Bool.or_eq_true, beq_iff_eq, ahB_iff] at this
        have h3 : AH (l.getD j z5) (l.getD (j + 1) z5) := by
          rcases this.2 with h | h
          · omega
          · exact h
        rcases Nat.lt_or_ge i j with h | h
        · exact (ih i h (by omega)).trans h3
        · rwa [show i = j by omega]
    rw [List.pairwise_iff_getElem]
    intro i j hi hj hij
    have := hs j i hij hj
    rwa [getD_get hi, getD_get hj] at this
  · simp only [okAt, Bool.and_eq_true, Bool.or_eq_true, beq_iff_eq, ahB_iff]
    refine ⟨h2 _ (getD_mem hi), ?_⟩
    rcases Nat.eq_zero_or_pos i with h | h
    · exact .inl h
    · refine .inr ?_
      rw [getD_get hi, getD_get (show i - 1 < l.length by omega)]
      exact List.pairwise_iff_getElem.1 h3 _ _ _ _ (by omega)
/-! ### Strictly rising lists. -/
theorem Apart.of_rises {l : List Ho} (h : l.Pairwise AH) : Apart l := h.imp fun h => h.apart
/-- Where h goes. -/
def cut (l : List Ho) (h : Ho) : Nat := l.findIdx fun x => !ahB x h
theorem cut_le (l : List Ho) (h : Ho) : cut l h ≤ l.length := List.findIdx_le_length
/-- With h in its place. -/
def insH (l : List Ho) (h : Ho) : List Ho := l.take (cut l h) ++ h :: l.drop (cut l h)
theorem insH_perm (l : List Ho) (h : Ho) : (insH l h).Perm (h :: l) := by
  have := @List.perm_middle _ h (l.take (cut l h)) (l.drop (cut l h))
  rwa [List.take_append_drop] at this
theorem insH_rises {l : List Ho} {h : Ho} (hl : l.Pairwise AH) (hn : ∀ x ∈ l, ¬ SN x h) : (insH l h).Pairwise AH := by
  unfold insH
  have hc := cut_le l h
  rw [List.pairwise_append]
  have hpre : ∀ x ∈ l.take (cut l h), AH x h := by
    intro x hx
    obtain ⟨i, hi, rfl⟩ := List.getElem_of_mem hx
    rw [List.getElem_take]
    have hi' : i < cut l h := by simp at hi; omega
    have := List.not_of_lt_findIdx (p := fun x => !ahB x h) (xs := l) hi'
    simpa [ahB_iff] using this
  have hpost : ∀ x ∈ l.drop (cut l h), AH h x := by
    intro x hx
    obtain ⟨i, hi, rfl⟩ := List.getElem_of_mem hx
    rw [List.getElem_drop]
    simp only [List.length_drop] at hi
    have hlt : cut l h < l.length := by omega
    have h0 : ¬ AH l[cut l h] h := by
      have := List.findIdx_getElem (p := fun x => !ahB x h) (xs := l) (w := hlt)
      simp only [Bool.not_eq_true', ahB_not] at this
      exact this
    have h1 : AH h l[cut l h] := by
      rcases AH.total h l[cut l h] with h2 | h2 | h2
      · exact h2
      · exact absurd h2 h0
      · exact absurd h2.symm (hn _ (List.getElem_mem hlt))
    rcases Nat.eq_zero_or_pos i with h2 | h2
    · subst h2; exact h1
    · exact h1.trans (List.pairwise_iff_getElem.1 hl _ _ hlt (by omega) (by omega))
  refine ⟨hl.sublist (List.take_sublist _ _), List.pairwise_cons.2 ⟨hpost, hl.sublist (List.drop_sublist _ _)⟩, fun x hx y hy => ?_⟩
  rcases List.mem_cons.1 hy with rfl | hy
  · exact hpre x hx
  · exact (hpre x hx).trans (hpost y hy)
/-- In order. -/
def isort (l : List Ho) : List Ho := l.foldr (fun h acc => insH acc h) []
theorem isort_perm : ∀ l : List Ho, (isort l).Perm l
  | [] => .refl _
  | x :: l => (insH_perm (isort l) x).trans ((isort_perm l).cons x)
theorem isort_rises : ∀ {l : List Ho}, Apart l → (isort l).Pairwise AH
  | [], _ => .nil
  | x :: l, h => by
    unfold Apart at h
    rw [List.pairwise_cons] at h
    exact insH_rises (isort_rises h.2) fun y hy hs => h.1 y ((isort_perm l).mem_iff.1 hy) hs.symm
/-- What is sorted, and of no two of one name, is it in order. -/
theorem sorted_isort {l m : List Ho} (hl : Apart l) (hp : m.Perm l) (hs : m.Pairwise fun a b => ahB b a = false) : m = isort l := by
  refine uniq ?_ (isort_rises hl) fun x => by rw [(isort_perm l).mem_iff, hp.mem_iff]
  have hm : Apart m := hp.symm.pairwise hl (fun {a b} h hs => h hs.symm)
  refine (hm.and hs).imp fun {a b} h => ?_
  rcases AH.total a b with h1 | h1 | h1
  · exact h1
  · exact absurd h1 (ahB_not.1 h.2)
  · exact absurd h1 h.1

end Go.Proofs.YtgblnlpfgdbnnaaGreat

namespace Go.Proofs.YtgblnlpfgdbnnaaGreat
set_option maxRecDepth 100000
open Go.ChangeShapes Go.WideShapes Go.ChangeAt Go.RowKit

/-! ### Equality. -/
/-! ### Slices of holds. -/
theorem flat_set : ∀ (hs : List Ho) (k : Nat) (z : Int), k < hs.length → (flat hs).set (k * 5 + 4) z = flat (hs.set k ⟨(hs.getD k z5).r, (hs.getD k z5).n, (hs.getD k z5).a, (hs.getD k z5).d, z⟩)
  | h :: t, 0, z, _ => rfl
  | h :: t, k + 1, z, hk => by
    have ih := flat_set t k z (by simpa using hk)
    have e : ∀ x (y : List Ho), flat (x :: y) = x.l ++ flat y := fun _ _ => rfl
    rw [List.set_cons_succ, e, e, show (k + 1) * 5 + 4 = h.l.length + (k * 5 + 4) by rw [Ho.len]; omega, List.set_append_right _ _ (by omega), Nat.add_sub_cancel_left, ih]
    rfl
/-! ### Rows that a call makes. -/
/-- The state of one is written. -/
theorem Own.state {w : World} {base g cap n : Nat} {hs : List Ho} (h : Own w base (.slice (some ⟨g, 0, none⟩) n cap) hs) {k : Nat} (hk : k < hs.length) (z : Int) :
    Own (w.setCell ⟨g, k * 5 + 4, none⟩ (.int .i64 z)) base (.slice (some ⟨g, 0, none⟩) n cap) (hs.set k ⟨(hs.getD k z5).r, (hs.getD k z5).n, (hs.getD k z5).a, (hs.getD k z5).d, z⟩) := by
  have hl : n = hs.length := by
    rcases h.2 with ⟨h1, _⟩ | ⟨_, _, _, h1, _⟩
    · cases h1
    · injection h1
  subst hl
  have := World.ownsRow.stored h (k * 5 + 4) (.int .i64 z)
  rw [vals_set, flat_set hs k z hk] at this
  unfold Own
  rw [List.length_set]
  exact this.1

theorem KeepH.of_keep {w u : World} {l : List (Nat × TypeId × List Int)} (h : KeepR w l u) : KeepH w l (.slice none 0 0) [] u := ⟨h, Own.nil _ _, by simp [Value.ownBlock]⟩
theorem KeepH.of_alloc {w u u' : World} {l : List (Nat × TypeId × List Int)} {v : Value} {hs : List Ho} (h : KeepH w l v hs u) {b : Nat} {t : TypeId} {zs : List Int} (hn : b = u.heap.size) (hk : KeepR w ((b, t, zs) :: l) u') (hb : Below u.heap.size u u') : KeepH w ((b, t, zs) :: l) v hs u' := by
  refine ⟨hk, h.own.call hb, fun x hx => ?_⟩
  rcases List.mem_cons.1 hx with rfl | hx
  · intro e
    have := (World.ownsRow.lt h.own _ e).2
    simp only at this
    omega
  · exact h.apart x hx
theorem KeepH.of_store {w u u' : World} {l : List (Nat × TypeId × List Int)} {v : Value} {hs : List Ho} (h : KeepH w l v hs u) (i : Nat) {b : Nat} {t : TypeId} {R S : List Int} (hi : l[i]? = some (b, t, R)) (hk : KeepR w (l.set i (b, t, S)) u') (he : ∀ k, k ≠ b → u'.heap[k]? = u.heap[k]?) : KeepH w (l.set i (b, t, S)) v hs u' := by
  have hb := h.apart _ (List.mem_of_getElem? hi)
  refine ⟨hk, ⟨h.own.1, ?_⟩, fun x hx => ?_⟩
  · rcases h.own.2 with h1 | ⟨g, cap, cur, rfl, h1, h2, h3⟩
    · exact .inl h1
    · refine .inr ⟨g, cap, cur, rfl, h1, ?_, h3⟩
      rw [he g (by simpa [Value.ownBlock] using hb)]; exact h2
  · rcases List.mem_or_eq_of_mem_set hx with hx | rfl
    · exact h.apart x hx
    · exact hb
/-- The state of one is written. -/
theorem KeepH.state {w u : World} {l : List (Nat × TypeId × List Int)} {g cap n : Nat} {hs : List Ho} (h : KeepH w l (.slice (some ⟨g, 0, none⟩) n cap) hs u) {k : Nat} (hk : k < hs.length) (z : Int) :
    KeepH w l (.slice (some ⟨g, 0, none⟩) n cap) (hs.set k ⟨(hs.getD k z5).r, (hs.getD k z5).n, (hs.getD k z5).a, (hs.getD k z5).d, z⟩) (u.setCell ⟨g, k * 5 + 4, none⟩ (.int .i64 z)) := by
  have hg : w.heap.size ≤ g := own_baseH h.own g rfl
  refine ⟨⟨h.keep.bel.setCell (p := ⟨g, k * 5 + 4, none⟩) hg _, fun x hx => ⟨(h.keep.blk x hx).1, (h.keep.blk x hx).2.apart _ _ (fun e => h.apart x hx (by simp [Value.ownBlock]; exact e.symm))⟩, h.keep.apart⟩, h.own.state hk z, h.apart⟩

theorem wp_append_hos {w u : World} {o : Oper} {a : Act} {K : Act → World → Prop} {Q : Exit → Act → World → Prop} {l : List (Nat × TypeId × List Int)} {v : Value} {xs : List Ho} (hk : KeepH w l v xs u) (s x : Operand)
    (ho : o.op = .call { callee := .builtin .append, args := #[s, x], argTypes := #[41, 41] }) (hs : a.eval s = v)
    (A : Option Addr) (m c : Nat) (zs : List Ho) (hx : a.eval x = .slice A m c) (hr : Row u A m zs) (h63 : xs.length + m ≤ 2000)
    (h : ∀ v' u', KeepH w l v' (xs ++ zs) u' → K (a.put o.dst v') u') : o.wp Tryz.prog a u K Q := by
  obtain ⟨v', w', hrun, h2, h3, h4⟩ := append_hos u w.heap.size o.type v xs hk.own A m c zs hr h63 hk.keep.bel.size
  unfold Oper.wp execOp
  simp only [ho, resolve, invoke, builtin, Sem.run_bind, Sem.run_pure, Result.andThen_ok, List.map_toArray, List.map_cons, List.map_nil, hs, hx, hrun]
  exact h v' w' (hk.grown h3 h2 h4)
theorem app_hos {w u : World} {ops : Array Oper} {rest : List Oper} {o : Oper} {a : Act} {Q : Exit → Act → World → Prop} {l : List (Nat × TypeId × List Int)} {v : Value} {xs : List Ho} (hk : KeepH w l v xs u) (hgd : o.guard = none) (s x : Operand)
    (ho : o.op = .call { callee := .builtin .append, args := #[s, x], argTypes := #[41, 41] }) (hs : a.eval s = v)
    (A : Option Addr) (m c : Nat) (zs : List Ho) (hx : a.eval x = .slice A m c) (hr : Row u A m zs) (h63 : xs.length + m ≤ 2000)
    (h : ∀ v' u', KeepH w l v' (xs ++ zs) u' → wpList Tryz.prog ops Q rest (a.put o.dst v') u') : wpList Tryz.prog ops Q (o :: rest) a u :=
  wpList_plain hgd fun _ hK => wp_append_hos hk s x ho hs A m c zs hx hr h63 fun v' u' h1 => hK _ _ (h v' u' h1)
/-- A row with none. -/
theorem build_none {ops : Array Oper} {rest : List Oper} {o : Oper} {a : Act} {w u : World} {l : List (Nat × TypeId × List Int)} {Q : Exit → Act → World → Prop} (hk : KeepR w l u) (hgd : o.guard = none) (ho : o.op = .buildSlice 41 0 #[])
    (h : ∀ v u', KeepH w l v [] u' → wpList Tryz.prog ops Q rest (a.put o.dst v) u') : wpList Tryz.prog ops Q (o :: rest) a u :=
  wpList_plain hgd fun K hK => by
    have hb : Below u.heap.size u (u.alloc (.cells #[] 81)) := (Below.refl _ _).alloc (Nat.le_refl _) _
    have ho' : Own (u.alloc (.cells #[] 81)) u.heap.size (.slice (some ⟨u.heap.size, 0, none⟩) 0 0) [] := World.ownsRow_made u #[] 0 (Nat.le_refl _) (Nat.zero_le _) (by simp)
    unfold Oper.wp execOp
    simp only [ho, List.map_toArray, List.map_nil, Sem.run_bind, Sem.run_pure, Result.andThen_ok, run_build0]
    exact hK _ _ (h _ _ ((KeepH.of_keep hk).other hb ho'))
theorem run_build1h (h : Ho) (u : World) : (Instr.buildSlice 41 1 #[(0, .agg (vals h.l).toArray)]).run Tryz.prog u = .ok (.slice (some ⟨u.heap.size, 0, none⟩) 1 1) (u.alloc (.cells (vals h.l).toArray 81)) := by
  obtain ⟨i0, hi0, hz0, hz1, hz2⟩ := info_parts h_info3
  simp [Instr.buildSlice, run_underlying Tryz.underlying41, sizeOf, typeInfo, zeroValue, hi0, hz0, hz1, Instr.fill, Value.cells, newRow, newObj, vals, Ho.l, set_five]
  rfl
/-- A slice of one. -/
theorem wp_build_one {o : Oper} {a : Act} {w u : World} {l : List (Nat × TypeId × List Int)} {v : Value} {xs : List Ho} {K : Act → World → Prop} {Q : Exit → Act → World → Prop} (hk : KeepH w l v xs u) (x : Operand) (ho : o.op = .buildSlice 41 1 #[(0, x)]) {h : Ho} (hx : a.eval x = .agg (vals h.l).toArray)
    (hh : ∀ b u', KeepH w ((b, 81, h.l) :: l) v xs u' → Below u.heap.size u u' → K (a.put o.dst (.slice (some ⟨b, 0, none⟩) 1 1)) u') : o.wp Tryz.prog a u K Q := by
  unfold Oper.wp execOp
  simp only [ho, List.map_toArray, List.map_cons, List.map_nil, hx, Sem.run_bind, Sem.run_pure, Result.andThen_ok, run_build1h]
  exact hh _ _ (hk.of_alloc rfl (hk.keep.new rfl) (box u _ _).2) (box u _ _).2
theorem build_one {ops : Array Oper} {rest : List Oper} {o : Oper} {a : Act} {w u : World} {l : List (Nat × TypeId × List Int)} {v : Value} {xs : List Ho} {Q : Exit → Act → World → Prop} (hk : KeepH w l v xs u) (hgd : o.guard = none) (x : Operand) (ho : o.op = .buildSlice 41 1 #[(0, x)]) {h : Ho} (hx : a.eval x = .agg (vals h.l).toArray)
    (hh : ∀ b u', KeepH w ((b, 81, h.l) :: l) v xs u' → Below u.heap.size u u' → wpList Tryz.prog ops Q rest (a.put o.dst (.slice (some ⟨b, 0, none⟩) 1 1)) u') : wpList Tryz.prog ops Q (o :: rest) a u :=
  wpList_plain hgd fun _ hK => wp_build_one hk x ho hx fun b u' h1 h2 => hK _ _ (hh b u' h1 h2)

theorem zeros_length : zeros.length = 16 := by simp [zeros]
theorem zlit : (vals zeros).toArray = #[.int .i64 0, .int .i64 0, .int .i64 0, .int .i64 0, .int .i64 0, .int .i64 0, .int .i64 0, .int .i64 0, .int .i64 0, .int .i64 0, .int .i64 0, .int .i64 0, .int .i64 0, .int .i64 0, .int .i64 0, .int .i64 0] := rfl
/-- The same, and a block more. -/
theorem boxes_more {w W : World} {t : TypeId} {xs ys : List Int} {n : Nat} (hn : W.heap.size = n) (h : Blk W w.heap.size t xs ∧ Blk W (w.heap.size + 1) t ys ∧ Below w.heap.size w W) (zs : List Int) :
    (Blk (W.alloc (.cells (vals zs).toArray t)) w.heap.size t xs ∧ Blk (W.alloc (.cells (vals zs).toArray t)) (w.heap.size + 1) t ys ∧ Below w.heap.size w (W.alloc (.cells (vals zs).toArray t))) ∧ Blk (W.alloc (.cells (vals zs).toArray t)) n t zs := by
  subst hn
  exact ⟨⟨h.1.alloc _, h.2.1.alloc _, h.2.2.alloc h.2.2.size _⟩, Blk.new W t zs⟩
/-! ### Equality of arrays of ints. -/
/-! ### Loads and stores of whole vectors, at a plain region's list. -/
theorem wpList_store_vec {ops : Array Oper} {rest : List Oper} {o : Oper} {a : Act} {w : World} {Q : Exit → Act → World → Prop} (hgd : o.guard = none) (x y : Operand) (ho : o.op = .store 33 x y)
    (b : Nat) (zs : List Int) (hx : a.eval x = .pointer (some ⟨b, 0, none⟩)) (hy : a.eval y = .agg (vals zs).toArray) (old : List Int) (hb : Blk w b 33 old) (ho16 : old.length = 16) (hl : zs.length = 16)
    (h : wpList Tryz.prog ops Q rest (a.put o.dst undef) (w.setRow b (vals zs).toArray)) : wpList Tryz.prog ops Q (o :: rest) a w :=
  wpList_store_row hgd _ x y ho b _ hx hy _ _ hb (by rw [List.size_toArray]; exact vec_info_of hl) (by simp [vals_length, ho16, hl]) (vals_all zs) h

theorem results_vec {fn : Func} {p : Tmp} (h : fn.results = #[.cell p 33]) (tmps : Array Value) (w : World) (b : Nat) (zs : List Int)
    (hp : tmps.getD p undef = .pointer (some ⟨b, 0, none⟩)) (hb : Blk w b 33 zs) (hl : zs.length = 16) : (results fn tmps).run Tryz.prog w = .ok (.agg (vals zs).toArray) w :=
  results_cell_row h tmps w b _ _ (0, 0) _ hp hb Tryz.underlying33 rfl (by rw [List.size_toArray]; exact vec_info_of hl)

/-- The first k of one list, and the rest of another one. -/
def mix (k : Nat) (zs xs : List Int) : List Int := zs.take k ++ xs.drop k
theorem mix_length {zs xs : List Int} (h : zs.length = xs.length) (k : Nat) : (mix k zs xs).length = xs.length := by simp [mix]; omega
theorem mix_zero (zs xs : List Int) : mix 0 zs xs = xs := by simp [mix]
theorem mix_all {zs xs : List Int} {k : Nat} (h : zs.length = xs.length) (hk : xs.length ≤ k) : mix k zs xs = zs := by
  simp [mix, List.take_of_length_le (show zs.length ≤ k by omega), List.drop_of_length_le hk]
theorem mix_get {zs xs : List Int} {k : Nat} (h : zs.length = xs.length) (hk : k < xs.length) : (mix k zs xs).getD k 0 = xs.getD k 0 := by
  simp [mix, List.getD, List.getElem?_append, show min k zs.length = k by omega]
theorem mix_set {zs xs : List Int} {k : Nat} (h : zs.length = xs.length) (hk : k < xs.length) : (mix k zs xs).set k (zs.getD k 0) = mix (k + 1) zs xs := by
  apply List.ext_getElem?
  intro i
  simp only [mix, List.getElem?_set, List.length_append, List.length_take, List.length_drop, List.getElem?_append, List.getElem?_take, List.getElem?_drop]
  by_cases h1 : k = i
  · subst h1
    have hz : k < zs.length := by omega
    simp [show min k zs.length = k by omega, show min (k + 1) zs.length = k + 1 by omega, List.getD, hz, show k < k + (xs.length - k) by omega]
  · simp only [h1, if_false]
    by_cases h2 : i < k
    · simp [show i < min k zs.length by omega, show i < min (k + 1) zs.length by omega, h2, show i < k + 1 by omega]
    · rw [if_neg (show ¬ i < min k zs.length by omega), if_neg (show ¬ i < min (k + 1) zs.length by omega)]
      congr 1
      omega

/-- Of each two numbers the greater one. -/
def joinL (xs ys : List Int) : List Int := List.zipWith max xs ys
theorem joinL_length {xs ys : List Int} (hx : xs.length = 16) (hy : ys.length = 16) : (joinL xs ys).length = 16 := by simp [joinL, hx, hy]
theorem joinL_get {xs ys : List Int} {k : Nat} (hx : k < xs.length) (hy : k < ys.length) : (joinL xs ys).getD k 0 = max (xs.getD k 0) (ys.getD k 0) := by
  simp [joinL, List.getD, List.getElem?_zipWith, hx, hy]

/-! ### Joining, and being over. -/

theorem join_any (xs ys : List Int) (hx : xs.length = 16) (hy : ys.length = 16) (w : World) :
    Calls Tryz.prog 133 #[.agg (vals xs).toArray, .agg (vals ys).toArray] w fun e w' => e = .returned (.agg (vals (joinL xs ys)).toArray) ∧ Below w.heap.size w w' := by
  have hix : ∀ (k : Nat) (W : World), k < 16 → (Instr.index 33 (.agg (vals ys).toArray) (.int .i64 (k : Int))).run Tryz.prog W = .ok (.int .i64 (ys.getD k 0)) W := fun k W hk => index_vec hy hk W
  have HIX := Lib.hid hix; clear hix
  have HJ := Lib.hid (joinL_length hx hy)
  have HX := Lib.hid hx; clear hx
  have HY := Lib.hid hy; clear hy
  have h1 := boxes_more (n := w.heap.size + 1 + 1) (by simp) (boxes w 33 xs ys) zeros
  rw [zlit] at h1
  have H0 := Lib.hid h1
  clear h1
  go_enter Tryz.func133, Tryz.ntmps133
  go_wp2_with ((with_reducible refine wpList_load_vec rfl _ rfl _ rfl _ H0.out.1.2.1 HY.out ?_))
  go_loopw [8] (fun i wr => ∃ k : Nat, k ≤ 16 ∧ i = .int .i64 k ∧ Blk wr w.heap.size 33 (mix k (joinL xs ys) xs) ∧ Blk wr (w.heap.size + 1 + 1) 33 zeros ∧ Below w.heap.size w wr) (fun i _ => 16 - (intOf i).toNat)
  case atStart => exact ⟨0, by omega, rfl, (mix_zero _ _).symm ▸ H0.out.1.1, H0.out.2, H0.out.1.2.2⟩
  case round =>
    obtain ⟨k, hk, rfl, hM, hZ, hS⟩ := hrel
    have HZ := Lib.hid hZ; have HM := Lib.hid hM; have HS := Lib.hid hS
    clear hZ hM hS H0
    by_cases hlt : k < 16
    · have hi : ∀ W : World, (Instr.index 33 (.agg (vals ys).toArray) (.int .i64 (k : Int))).run Tryz.prog W = .ok (.int .i64 (ys.getD k 0)) W := fun W => HIX.out k W hlt
      have c1 := HM.out.cell (k := k) (by rw [mix_length (by rw [HJ.out, HX.out]), HX.out]; omega)
      have f1 := HM.out.frozen k
      have hj := joinL_get (xs := xs) (ys := ys) (k := k) (by have := HX.out; omega) (by have := HY.out; omega)
      have hm := mix_set (zs := joinL xs ys) (xs := xs) (k := k) (by rw [HJ.out, HX.out]) (by rw [HX.out]; omega)
      rw [hj] at hm
      rw [mix_get (by rw [HJ.out, HX.out]) (by rw [HX.out]; omega)] at c1
      generalize hx : xs.getD k 0 = x at c1 hm
      generalize hy : ys.getD k 0 = y at hi hm
      clear hx hy hj
      have Hm := Lib.hid hm; clear hm
      have i1 : (0 : Int) ≤ (k : Int) := by omega
      have i2 : (k : Int) < 16 := by omega
      go_wp2
      go_roundw
      case rel =>
        have e : (if x < y then y else x) = max x y := by split <;> omega
        (try rw [e])
        refine ⟨k + 1, by omega, by go_num, ?_, HZ.out.apart _ _ (by simp; omega), HS.out.setCell (by simp) _⟩
        have := HM.out.setCell k (max x y)
        rwa [Hm.out] at this
      case measure => simp [intOf]; omega
    · have hM := HM.out
      rw [mix_all (by rw [HJ.out, HX.out]) (by rw [HX.out]; omega)] at hM
      have HM := Lib.hid hM; clear hM
      go_wp2_with (first
        | (with_reducible refine wpList_load_vec rfl _ rfl _ rfl _ HM.out HJ.out ?_)
        | (with_reducible refine wpList_store_vec rfl _ _ rfl _ _ rfl rfl _ HZ.out zeros_length HJ.out ?_))
      exact bodyPost_ret (results_vec rfl _ _ _ _ rfl (HZ.out.setRow _) HJ.out) rfl ⟨rfl, below_setRow HS.out (by omega) _⟩

/-! ### Parts of a list. -/
/-! ### Blocks. -/
/-! ### Operations at a plain region's list. -/
/-! ### What the types are. -/
theorem r_zero : (Tryz.prog.info? 36).bind (·.zero) = some (.agg (vals (zer 288)).toArray) := by kernel_rfl

/-! ### Rows of ints that are made, beside what is kept. -/
/-! ### What is free. -/

theorem joinL_len {R T : List Int} {n : Nat} (hR : R.length = n) (hT : T.length = n) : (joinL R T).length = n := by simp [joinL, hR, hT]
theorem seg_join {R T : List Int} {o n : Nat} (hR : o + n ≤ R.length) (hT : o + n ≤ T.length) : joinL (seg R o n) (seg T o n) = seg (joinL R T) o n := by
  have hJ : o + n ≤ (joinL R T).length := by simp [joinL]; omega
  refine ext_get (by rw [joinL_len (seg_length hR) (seg_length hT), seg_length hJ]) fun k hk => ?_
  rw [joinL_len (seg_length hR) (seg_length hT)] at hk
  rw [joinL_get (by rw [seg_length hR]; exact hk) (by rw [seg_length hT]; exact hk), seg_get hk, seg_get hk, seg_get hk, joinL_get (by omega) (by omega)]
theorem mix_at {J R : List Int} (h : J.length = R.length) (m i : Nat) (hi : i < R.length) : (mix m J R).getD i 0 = if i < m then J.getD i 0 else R.getD i 0 := by
  simp only [mix, List.getD, List.getElem?_append, List.length_take, List.getElem?_take, List.getElem?_drop]
  by_cases h1 : i < m
  · simp [h1, show i < min m J.length by omega]
  · by_cases h2 : m ≤ J.length
    · simp [h1, show ¬ i < min m J.length by omega, show m + (i - min m J.length) = i by omega]
    · omega
theorem mix_rest {J R : List Int} (h : J.length = R.length) {m n : Nat} (hm : m + n ≤ R.length) : seg (mix m J R) m n = seg R m n := by
  refine ext_get (by rw [seg_length (by rw [mix_length h]; exact hm), seg_length hm]) fun k hk => ?_
  rw [seg_length (by rw [mix_length h]; exact hm)] at hk
  rw [seg_get hk, seg_get hk, mix_at h _ _ (by omega), if_neg (by omega)]
theorem mix_splice {J R : List Int} (h : J.length = R.length) {m n : Nat} (hm : m + n ≤ R.length) : splice (mix m J R) m (seg J m n) = mix (m + n) J R := by
  have hl : (seg J m n).length = n := seg_length (by omega)
  refine ext_get (by rw [splice_length, mix_length h, mix_length h]) fun k hk => ?_
  rw [splice_length, mix_length h] at hk
  rw [splice_get _ _ _ _ (by rw [hl, mix_length h]; exact hm), hl, mix_at h _ _ hk, mix_at h _ _ hk]
  by_cases h1 : k < m
  · rw [if_neg (by omega), if_pos h1, if_pos (by omega)]
  · by_cases h2 : k < m + n
    · rw [if_pos (by omega), if_pos h2, seg_get (by omega)]; congr 1; omega
    · rw [if_neg (by omega), if_neg h1, if_neg h2]

set_option maxHeartbeats 1000000 in
theorem join1_any (b off : Nat) (t : TypeId) (A ys : List Int) (hA : off + 16 ≤ A.length) (hy : ys.length = 16) (w : World) (hB : Blk w b t A) :
    Calls Tryz.prog 132 #[.pointer (some ⟨b, off, none⟩), .agg (vals ys).toArray] w fun e w' => e = .returned (.tuple #[]) ∧ ∃ u, Below w.heap.size w u ∧ w' = u.setCells b off (vals (joinL (seg A off 16) ys)) := by
  have HJ := Lib.hid (joinL_len (n := 16) (seg_length hA) hy)
  have HL := Lib.hid (seg_length hA)
  have HY := Lib.hid hy; have HA := Lib.hid hA; have HB := Lib.hid hB
  clear hy hA hB
  have HK := Lib.hid (KeepR.start w)
  go_enter Tryz.func132, Tryz.ntmps132
  go_wp2_with (first
    | (with_reducible refine box_new HK.out rfl _ rfl rfl ?_; intro b3 u hk hb; clear hb; clear HK; have HK := Lib.hid hk; clear hk))
  refine Draws.start (S := fun u => KeepR w [(b3, 33, ys)] u) (n := 7) 8 rfl (by kernel_rfl) ?_
  have HS := Lib.hid ((HK.out.drew : (fun u => KeepR w [(b3, 33, ys)] u) _))
  refine Draws.take 0 (v := ?v0) HS.out rfl (by kernel_rfl) (fun _ _ _ h => h) (Or.inl ⟨rfl, ?h0⟩) ?r0
  case h0 => intro w' hw'; go_simp; (try with_reducible rfl)
  (try simp only [Act.put, lsA, lsB, lsC])
  refine Draws.take 1 (v := ?v1) HS.out rfl (by kernel_rfl) (fun _ _ _ h => h) (Or.inl ⟨rfl, ?h1⟩) ?r1
  case h1 => intro w' hw'; go_simp; (try with_reducible rfl)
  (try simp only [Act.put, lsA, lsB, lsC])
  refine Draws.take 2 (v := ?v2) HS.out rfl (by kernel_rfl) (fun _ _ _ h => h) (Or.inl ⟨rfl, ?h2⟩) ?r2
  case h2 => intro w' hw'; go_simp; (try with_reducible rfl)
  (try simp only [Act.put, lsA, lsB, lsC])
  refine Draws.take 3 HS.out rfl (by kernel_rfl) (fun _ _ _ h => h) (yieldsIf_load_mid rfl _ _ rfl _ _ rfl (vals (seg A off 16)) _ (fun u h => (HB.out.below h.bel HB.out.lt).seg HA.out) Tryz.underlying33 rfl (by rw [vals_length, HL.out]; exact vec_info)) ?_
  (try simp only [Act.put, lsA, lsB, lsC])
  refine Draws.take 4 HS.out rfl (by kernel_rfl) (fun _ _ _ h => h) (yield_all (fun _ h => h) 0 16 Tryz.underlying33 rfl vec_info rfl _ rfl rfl rfl HY.out) ?_
  (try simp only [Act.put, lsA, lsB, lsC])
  refine Draws.does 5 rfl (by kernel_rfl) rfl (fun K hK => ?_)
  go_simp
  go_at_call 133
  refine (join_any (seg A off 16) ys HL.out HY.out _).mono ?_
  rintro e u ⟨rfl, hb⟩
  (try dsimp only)
  refine hK.out _ _ (fun _ => HS.out.call hb) ?_
  clear hK K
  have hs : (fun u => KeepR w [(b3, 33, ys)] u) u := HS.out.call hb
  clear HS
  have HS := Lib.hid hs; clear hs
  (try simp only [Act.put, lsA, lsB, lsC])
  clear hb
  refine Draws.take 6 (v := ?v6) HS.out rfl (by kernel_rfl) (fun _ _ _ h => h) (Or.inl ⟨rfl, ?h6⟩) ?r6
  case h6 => intro w' hw'; go_simp; (try with_reducible rfl)
  (try simp only [Act.put, lsA, lsB, lsC])
  refine Draws.does 7 rfl (by kernel_rfl) rfl (fun K hK => ?_)
  refine wp_store_mid _ _ _ rfl _ _ _ rfl rfl (by simp only [List.size_toArray, vals_length, HJ.out]; exact (HB.out.below HS.out.bel HB.out.lt).thereAt HA.out) (by simp only [List.size_toArray, vals_length, HJ.out]; exact vec_info) (vals_all _) ?_
  refine hK.out _ _ (fun h => absurd h (by omega)) ?_
  clear hK K
  (try simp only [Act.put])
  refine Draws.done (by kernel_rfl) ?_
  go_wp2_with fail
  go_end0
  exact ⟨rfl, _, HS.out.bel, rfl⟩

theorem join_step {R T : List Int} (hR : R.length = 288) (hT : T.length = 288) {m : Nat} (hm : m + 16 ≤ 288) : splice (mix m (joinL R T) R) m (joinL (seg (mix m (joinL R T) R) m 16) (seg T m 16)) = mix (m + 16) (joinL R T) R := by
  have hJ := joinL_len hR hT
  rw [mix_rest (by omega) (by omega), seg_join (by omega) (by omega), mix_splice (by omega) (by omega)]

set_option maxHeartbeats 1000000 in
theorem join_r (R T : List Int) (hR : R.length = 288) (hT : T.length = 288) (w : World) :
    Calls Tryz.prog 92 #[.agg (vals R).toArray, .agg (vals T).toArray] w fun e w' => e = .returned (.agg (vals (joinL R T)).toArray) ∧ Below w.heap.size w w' := by
  have HJ := Lib.hid (joinL_len hR hT)
  have HST := Lib.hid (fun m (hm : m + 16 ≤ 288) => join_step hR hT (m := m) hm)
  have h0 := join_step hR hT (m := 0) (by omega)
  rw [mix_zero] at h0
  have H0 := Lib.hid h0; clear h0
  have HML := Lib.hid (fun m => mix_length (zs := joinL R T) (xs := R) (by rw [joinL_len hR hT, hR]) m)
  have HS0 := Lib.hid (seg_length (R := T) (o := 0) (n := 16) (by omega))
  have HS1 := Lib.hid (seg_length (R := T) (o := 16) (n := 16) (by omega))
  have HSM := Lib.hid (seg_length (R := T) (o := 32) (n := 256) (by omega))
  have HR := Lib.hid hR; clear hR
  have HT := Lib.hid hT; clear hT
  have HK := Lib.hid (KeepR.start w)
  go_enter Tryz.func92, Tryz.ntmps92
  go_wp2_with (first
    | (with_reducible refine box_new (R := R) HK.out rfl _ rfl rfl ?_; intro bR u hk hb; clear hb; clear HK; have HK := Lib.hid hk; clear hk)
    | (with_reducible refine box_new (R := T) HK.out rfl _ rfl rfl ?_; intro bT u hk hb; clear hb; clear HK; have HK := Lib.hid hk; clear hk)
    | (with_reducible refine alloc_zero HK.out 288 r_zero rfl rfl ?_; intro bZ u hn hk hb; clear hn hb; clear HK; have HK := Lib.hid hk; clear hk)
    | (with_reducible refine load_part HK.out 1 16 Tryz.underlying33 rfl vec_info rfl _ rfl rfl rfl (by have := HT.out; omega) ?_)
    | (go_at_call 132; (with_reducible refine (join1_any _ 0 _ R (seg T 0 16) (by have := HR.out; omega) HS0.out _ (HK.out.get 2 rfl)).mono ?_); rintro e u ⟨rfl, u1, hb, hu⟩; have hk := (HK.out.call hb).setCells 2 rfl 0 (joinL (seg R 0 16) (seg T 0 16)); rw [← hu, H0.out] at hk; clear hu hb; simp only [List.set_cons_zero, List.set_cons_succ] at hk; clear HK; have HK := Lib.hid hk; clear hk)
    | (go_at_call 132; (with_reducible refine (join1_any _ 16 _ (mix 16 (joinL R T) R) (seg T 16 16) (by rw [HML.out, HR.out]; omega) HS1.out _ (HK.out.get 2 rfl)).mono ?_); rintro e u ⟨rfl, u1, hb, hu⟩; have hk := (HK.out.call hb).setCells 2 rfl 16 (joinL (seg (mix 16 (joinL R T) R) 16 16) (seg T 16 16)); rw [← hu, HST.out 16 (by omega)] at hk; clear hu hb; simp only [List.set_cons_zero, List.set_cons_succ] at hk; clear HK; have HK := Lib.hid hk; clear hk)
    | (with_reducible refine load_part HK.out 1 256 Tryz.underlying34 rfl m_info rfl _ rfl rfl rfl (by have := HT.out; omega) ?_))
  go_loopw [20] (fun i wr => ∃ m : Nat, m ≤ 16 ∧ i = .int .i64 m ∧ KeepR w [(bZ, 36, zer 288), (bT, 36, T), (bR, 36, mix (32 + m * 16) (joinL R T) R)] wr) (fun i _ => 16 - (intOf i).toNat)
  case atStart => exact ⟨0, by omega, rfl, HK.out⟩
  case round =>
    obtain ⟨m, hm, rfl, hk⟩ := hrel
    clear HK
    have HK := Lib.hid hk
    clear hk
    by_cases hlt : m < 16
    · have hix : ∀ W : World, (Instr.index 34 (.agg (vals (seg T 32 256)).toArray) (.int .i64 (m : Int))).run Tryz.prog W = .ok (.agg (vals (seg (seg T 32 256) (m * 16) 16)).toArray) W := fun W => index_row HSM.out hlt W
      rw [show seg (seg T 32 256) (m * 16) 16 = seg T (32 + m * 16) 16 from seg_seg (by omega)] at hix
      have HL := Lib.hid (seg_length (R := T) (o := 32 + m * 16) (n := 16) (by have := HT.out; omega))
      have HE := Lib.hid (HST.out (32 + m * 16) (by omega))
      have j1 : (0 : Int) ≤ (m : Int) := by omega
      have j2 : (m : Int) < 16 := by omega
      go_wp2_with (first
        | (with_reducible refine alloc_zero HK.out 16 v_zero rfl rfl ?_; intro b7 u hn hk hb; clear hn hb; clear HK; have HK := Lib.hid hk; clear hk)
        | (with_reducible refine store_all HK.out 0 16 vec_info rfl rfl _ _ rfl rfl rfl rfl HL.out (zer_length 16) ?_; intro u hk hs; clear hs; simp only [List.set_cons_zero] at hk; clear HK; have HK := Lib.hid hk; clear hk))
      refine Draws.start (S := fun u => KeepR w [(b7, 33, seg T (32 + m * 16) 16), (bZ, 36, zer 288), (bT, 36, T)] u) (n := 6) 6 rfl (by kernel_rfl) ?_
      have HS := Lib.hid ((HK.out.drew.sub (List.sublist_append_left _ [_]) : (fun u => KeepR w [(b7, 33, seg T (32 + m * 16) 16), (bZ, 36, zer 288), (bT, 36, T)] u) _))
      refine Draws.take 0 (v := ?v0) HS.out rfl (by kernel_rfl) (fun _ _ _ h => h) (Or.inl ⟨rfl, ?h0⟩) ?r0
      case h0 => intro w' hw'; go_simp; (try with_reducible rfl)
      (try simp only [Act.put, lsA, lsB, lsC])
      refine Draws.take 1 (v := ?v1) HS.out rfl (by kernel_rfl) (fun _ _ _ h => h) (Or.inl ⟨rfl, ?h1⟩) ?r1
      case h1 => intro w' hw'; go_simp; (try with_reducible rfl)
      (try simp only [Act.put, lsA, lsB, lsC])
      refine Draws.take 2 (v := ?v2) HS.out rfl (by kernel_rfl) (fun _ _ _ h => h) (Or.inl ⟨rfl, ?h2⟩) ?r2
      case h2 => intro w' hw'; go_simp; (try with_reducible rfl)
      (try simp only [Act.put, lsA, lsB, lsC])
      refine Draws.take 3 (v := ?v3) HS.out rfl (by kernel_rfl) (fun _ _ _ h => h) (Or.inl ⟨rfl, ?h3⟩) ?r3
      case h3 => intro w' hw'; go_simp; (try with_reducible rfl)
      (try simp only [Act.put, lsA, lsB, lsC])
      refine Draws.take 4 HS.out rfl (by kernel_rfl) (fun _ _ _ h => h) (yield_all (fun _ h => h) 0 16 Tryz.underlying33 rfl vec_info rfl _ rfl rfl rfl HL.out) ?_
      (try simp only [Act.put, lsA, lsB, lsC])
      refine Draws.does 5 rfl (by kernel_rfl) rfl (fun K hK => ?_)
      go_simp
      go_at_call 132
      refine (join1_any _ (32 + m * 16) _ (mix (32 + m * 16) (joinL R T) R) (seg T (32 + m * 16) 16) (by rw [HML.out, HR.out]; omega) HL.out _ (HK.out.drew.get 3 rfl)).mono ?_
      rintro e u ⟨rfl, u1, hb, hu⟩
      (try dsimp only)
      have hk := (HK.out.drew.call hb).setCells 3 rfl (32 + m * 16) (joinL (seg (mix (32 + m * 16) (joinL R T) R) (32 + m * 16) 16) (seg T (32 + m * 16) 16))
      rw [← hu, HE.out] at hk
      simp only [List.set_cons_zero, List.set_cons_succ] at hk
      clear HK hu hb
      have HK := Lib.hid hk; clear hk
      refine hK.out _ _ (fun _ => HK.out.sub (List.sublist_append_left _ [_])) ?_
      clear hK K
      have hs : (fun u => KeepR w [(b7, 33, seg T (32 + m * 16) 16), (bZ, 36, zer 288), (bT, 36, T)] u) u := HK.out.sub (List.sublist_append_left _ [_])
      clear HS
      have HS := Lib.hid hs; clear hs
      (try simp only [Act.put, lsA, lsB, lsC])
      refine Draws.done (by kernel_rfl) ?_
      go_wp2
      go_roundw
      case rel => exact ⟨m + 1, by omega, by go_num, by have h := HK.out.tail; rw [show 32 + m * 16 + 16 = 32 + (m + 1) * 16 by omega] at h; exact h⟩
      case measure => simp [intOf]; omega
    · obtain rfl : m = 16 := by omega
      have hk := HK.out
      rw [show 32 + 16 * 16 = 288 from rfl, mix_all (by rw [HJ.out, HR.out]) (by rw [HR.out]; omega)] at hk
      clear HK
      have HK := Lib.hid hk; clear hk
      go_wp2_with (first
        | (with_reducible refine load_all HK.out 2 288 Tryz.underlying36 rfl r_info rfl _ rfl rfl rfl HJ.out ?_)
        | (with_reducible refine store_all HK.out 0 288 r_info rfl rfl _ _ rfl rfl rfl rfl HJ.out (zer_length 288) ?_; intro u hk hs; clear hs; simp only [List.set_cons_zero] at hk; clear HK; have HK := Lib.hid hk; clear hk))
      exact bodyPost_ret (results_r rfl Tryz.underlying36 rfl r_info _ HK.out 0 rfl rfl HJ.out) rfl ⟨rfl, HK.out.bel⟩

/-! ### A new one. -/
/-! ### Two changes. -/
/-! ### Joined. -/
def sameB (A B : List Int) : Bool := (A.getD 0 0 == B.getD 0 0) && (A.getD 1 0 == B.getD 1 0) && (A.getD 2 0 == B.getD 2 0)
def cjE (A B : List Int) : Int := if sameB A B = true then 0 else 1
def cjC (A B : List Int) : List Int := splice (splice A 3 (joinL (dnR A) (dnR B))) 291 (joinL (upR A) (upR B))
def cjA (A B : List Int) : List Int := if sameB A B = true then cjC A B else zer 579
theorem jl_length {R T : List Int} (hR : R.length = 288) (hT : T.length = 288) : (joinL R T).length = 288 := by simp [joinL, hR, hT]
theorem cjC_length {A B : List Int} (h : A.length = 579) : (cjC A B).length = 579 := by simp [cjC, splice_length, h]
theorem cjA_length {A B : List Int} (h : A.length = 579) : (cjA A B).length = 579 := by unfold cjA; split; exact cjC_length h; exact zer_length 579
theorem cj_yes {A B : List Int} (h : sameB A B = true) : cjE A B = 0 ∧ cjA A B = cjC A B := by simp [cjE, cjA, h]
theorem cj_no {A B : List Int} (h : sameB A B = false) : cjE A B = 1 ∧ cjA A B = zer 579 := by simp [cjE, cjA, h]
/-! ### The value. -/
/-! ### Whether one may be. -/

end Go.Proofs.YtgblnlpfgdbnnaaGreat

namespace Go.Proofs.YtgblnlpfgdbnnaaGreat

theorem cmpI_eq (x : Int) : cmpI x x = 0 := by simp [cmpI]
theorem ltL_trans {a b c : Lk} (h1 : ltL a b) (h2 : ltL b c) : ltL a c := by unfold ltL at *; omega
theorem cmp_pos {a b : Lk} : 0 < cmpL a b ↔ ltL b a := by
  rcases cmpL_cases a b with ⟨h, e⟩ | ⟨h, e⟩ | ⟨rfl, e⟩
  · rw [e]; exact ⟨fun h' => by omega, fun h' => absurd (ltL_trans h h') (ltL_irrefl _)⟩
  · rw [e]; exact ⟨fun _ => h, fun _ => by omega⟩
  · rw [e]; exact ⟨fun h' => by omega, fun h' => absurd h' (ltL_irrefl _)⟩
/-- The one that is behind. -/
def joinK (a b : Lk) : Lk := if 0 < cmpL b a then b else a
theorem joinK_not {a b : Lk} (h : ¬ ltL a b) : joinK a b = a := by rw [joinK, if_neg (fun h' => h (cmp_pos.1 h'))]
theorem joinK_self (a : Lk) : joinK a a = a := joinK_not (ltL_irrefl a)
/-! ### New, Right, Write, Pass. -/

end Go.Proofs.YtgblnlpfgdbnnaaGreat

namespace Go.Proofs.YtgblnlpfgdbnnaaGreat
set_option maxRecDepth 100000
open Go.ChangeShapes Go.WideShapes Go.ChangeAt Go.RowKit

section
variable {ops : Array Oper} {rest : List Oper} {o : Oper} {a : Act} {w u : World} {l : List (Nat × TypeId × List Value)} {rows : List (Option Addr × Nat × List Ho)} {Q : Exit → Act → World → Prop} {K : Act → World → Prop}
/-! ### Loads. -/
/-! ### Stores. -/
theorem run_store_f1 {W : World} {ad : Addr} {v v' : Value} {ty : TypeId} (ht : cellB ty = true) (hc : W.cell? ad = some v') (hf : W.frozen? ad = false) (hv : plainV v = true) : (Instr.storeAt ty (.pointer (some ad)) v).run Tryz.prog W = .ok () (W.setCell ad v) := by
  simp only [cellB, Bool.or_eq_true, beq_iff_eq] at ht
  cases v <;> simp only [plainV, Bool.false_eq_true] at hv <;> rcases ht with (rfl | rfl) | rfl <;> simp [go_sem, hc, hf]
theorem wp_store_f1 (hk : KeepF w l rows u) (i : Nat) {ty : TypeId} (ht : cellB ty = true) (hd : o.dst = none) (x y : Operand) (ho : o.op = .store ty x y) {b off : Nat} {t : TypeId} {cs ds : List Value} {v : Value} (hi : l[i]? = some (b, t, cs))
    (hx : a.eval x = .pointer (some ⟨b, off, none⟩)) (hy : a.eval y = v) (hv : plainV v = true) (hr : off < cs.length) (hds : cs.set off v = ds)
    (h : ∀ u', KeepF w (l.set i (b, t, ds)) rows u' → (∀ k, k ≠ b → u'.heap[k]? = u.heap[k]?) → K a u') : o.wp Tryz.prog a u K Q := by
  subst hds
  have e := run_store_f1 (v := v) ht ((hk.get i hi).cell (List.getElem?_eq_getElem hr)) ((hk.get i hi).frozen off) hv
  unfold Oper.wp execOp
  simp only [ho, hx, hy, Sem.run_bind, Sem.run_pure, Result.andThen_ok, e]
  simpa [hd, Act.put, Oper.upon] using h _ (hk.setCell i hi off v) (fun k hk' => heap_setCell_other u ⟨b, off, none⟩ k _ hk')
end

set_option maxRecDepth 100000 in
set_option maxHeartbeats 1000000 in
theorem cjoin_any (A B : List Int) (hA : A.length = 579) (hB : B.length = 579) (w : World) :
    Calls Tryz.prog 56 #[.agg (vals A).toArray, .agg (vals B).toArray] w fun e w' => e = .returned (.tuple #[.agg (vals (cjA A B)).toArray, .int .i64 (cjE A B)]) ∧ Below w.heap.size w w' := by
  have HL1 := Lib.hid (show (seg A 3 288).length = 288 from dnR_length hA)
  have HL2 := Lib.hid (show (seg B 3 288).length = 288 from dnR_length hB)
  have HL3 := Lib.hid (show (seg A 291 288).length = 288 from upR_length hA)
  have HL4 := Lib.hid (show (seg B 291 288).length = 288 from upR_length hB)
  have HJ1 := Lib.hid (jl_length HL1.out HL2.out)
  have HJ2 := Lib.hid (jl_length HL3.out HL4.out)
  have HQ := Lib.hid (show seg (splice A 3 (joinL (seg A 3 288) (seg B 3 288))) 291 288 = seg A 291 288 from splice_seg_apart (by have := HJ1.out; omega) (by omega) (by have := HJ1.out; omega))
  have HA := Lib.hid hA; clear hA
  have HB := Lib.hid hB; clear hB
  have HK := Lib.hid (KeepR.start w)
  obtain ⟨p0, hp0⟩ : ∃ p, A.getD 0 0 = p := ⟨_, rfl⟩
  obtain ⟨q0, hq0⟩ : ∃ q, B.getD 0 0 = q := ⟨_, rfl⟩
  obtain ⟨p1, hp1⟩ : ∃ p, A.getD 1 0 = p := ⟨_, rfl⟩
  obtain ⟨q1, hq1⟩ : ∃ q, B.getD 1 0 = q := ⟨_, rfl⟩
  obtain ⟨p2, hp2⟩ : ∃ p, A.getD 2 0 = p := ⟨_, rfl⟩
  obtain ⟨q2, hq2⟩ : ∃ q, B.getD 2 0 = q := ⟨_, rfl⟩
  have hsb : sameB A B = ((p0 == q0) && (p1 == q1) && (p2 == q2)) := by simp only [sameB, hp0, hp1, hp2, hq0, hq1, hq2]
  have P0 := Lib.hid hp0; clear hp0
  have Q0 := Lib.hid hq0; clear hq0
  have P1 := Lib.hid hp1; clear hp1
  have Q1 := Lib.hid hq1; clear hq1
  have P2 := Lib.hid hp2; clear hp2
  have Q2 := Lib.hid hq2; clear hq2
  cases t0 : (p0 == q0) with
  | false =>
    have n0 : (p0 != q0) = true := by simp only [bne, t0, Bool.not_false]
    obtain ⟨e1, e2⟩ := cj_no (A := A) (B := B) (by rw [hsb]; simp only [t0, Bool.false_and])
    rw [e1, e2]; clear e1 e2
    go_enter Tryz.func56, Tryz.ntmps56
    go_wp2_with (first
      | (with_reducible refine box_new (R := A) HK.out rfl _ rfl rfl ?_; intro ba u hk hb; clear hb; clear HK; have HK := Lib.hid hk; clear hk)
      | (with_reducible refine box_new (R := B) HK.out rfl _ rfl rfl ?_; intro bb u hk hb; clear hb; clear HK; have HK := Lib.hid hk; clear hk)
      | (with_reducible refine alloc_zero HK.out 579 c_zero rfl rfl ?_; intro br u hn hk hb; clear hn hb; clear HK; have HK := Lib.hid hk; clear hk)
      | (with_reducible refine build_zero 579 c_build rfl rfl ?_)
      | (with_reducible refine load_val HK.out 2 rfl _ rfl rfl rfl P0.out (by have := HA.out; omega) ?_)
      | (with_reducible refine load_val HK.out 1 rfl _ rfl rfl rfl Q0.out (by have := HB.out; omega) ?_)
      | (with_reducible refine load_val HK.out 2 rfl _ rfl rfl rfl P1.out (by have := HA.out; omega) ?_)
      | (with_reducible refine load_val HK.out 1 rfl _ rfl rfl rfl Q1.out (by have := HB.out; omega) ?_)
      | (with_reducible refine load_val HK.out 2 rfl _ rfl rfl rfl P2.out (by have := HA.out; omega) ?_)
      | (with_reducible refine load_val HK.out 1 rfl _ rfl rfl rfl Q2.out (by have := HB.out; omega) ?_)
      | (with_reducible refine load_val_want HK.out 2 _ rfl rfl rfl rfl P0.out (by have := HA.out; omega) ?_)
      | (with_reducible refine load_val_want HK.out 1 _ rfl rfl rfl rfl Q0.out (by have := HB.out; omega) ?_)
      | (with_reducible refine load_val_want HK.out 2 _ rfl rfl rfl rfl P1.out (by have := HA.out; omega) ?_)
      | (with_reducible refine load_val_want HK.out 1 _ rfl rfl rfl rfl Q1.out (by have := HB.out; omega) ?_)
      | (with_reducible refine load_val_want HK.out 2 _ rfl rfl rfl rfl P2.out (by have := HA.out; omega) ?_)
      | (with_reducible refine load_val_want HK.out 1 _ rfl rfl rfl rfl Q2.out (by have := HB.out; omega) ?_)
      | (with_reducible refine store_all HK.out 0 579 c_info rfl rfl _ _ rfl rfl rfl rfl (zer_length 579) (zer_length 579) ?_; intro u hk hs; clear hs; simp only [List.set_cons_zero] at hk; clear HK; have HK := Lib.hid hk; clear hk))
    exact bodyPost_ret (results_2 rfl Tryz.underlying38 rfl c_info _ HK.out 0 _ rfl rfl rfl (zer_length 579)) rfl ⟨rfl, HK.out.bel⟩
  | true =>
    have n0 : (p0 != q0) = false := by simp only [bne, t0, Bool.not_true]
    cases t1 : (p1 == q1) with
    | false =>
      have n1 : (p1 != q1) = true := by simp only [bne, t1, Bool.not_false]
      obtain ⟨e1, e2⟩ := cj_no (A := A) (B := B) (by rw [hsb]; simp only [t0, t1, Bool.false_and, Bool.and_false])
      rw [e1, e2]; clear e1 e2
      go_enter Tryz.func56, Tryz.ntmps56
      go_wp2_with (first
        | (with_reducible refine box_new (R := A) HK.out rfl _ rfl rfl ?_; intro ba u hk hb; clear hb; clear HK; have HK := Lib.hid hk; clear hk)
        | (with_reducible refine box_new (R := B) HK.out rfl _ rfl rfl ?_; intro bb u hk hb; clear hb; clear HK; have HK := Lib.hid hk; clear hk)
        | (with_reducible refine alloc_zero HK.out 579 c_zero rfl rfl ?_; intro br u hn hk hb; clear hn hb; clear HK; have HK := Lib.hid hk; clear hk)
        | (with_reducible refine build_zero 579 c_build rfl rfl ?_)
        | (with_reducible refine load_val HK.out 2 rfl _ rfl rfl rfl P0.out (by have := HA.out; omega) ?_)
        | (with_reducible refine load_val HK.out 1 rfl _ rfl rfl rfl Q0.out (by have := HB.out; omega) ?_)
        | (with_reducible refine load_val HK.out 2 rfl _ rfl rfl rfl P1.out (by have := HA.out; omega) ?_)
        | (with_reducible refine load_val HK.out 1 rfl _ rfl rfl rfl Q1.out (by have := HB.out; omega) ?_)
        | (with_reducible refine load_val HK.out 2 rfl _ rfl rfl rfl P2.out (by have := HA.out; omega) ?_)
        | (with_reducible refine load_val HK.out 1 rfl _ rfl rfl rfl Q2.out (by have := HB.out; omega) ?_)
        | (with_reducible refine load_val_want HK.out 2 _ rfl rfl rfl rfl P0.out (by have := HA.out; omega) ?_)
        | (with_reducible refine load_val_want HK.out 1 _ rfl rfl rfl rfl Q0.out (by have := HB.out; omega) ?_)
        | (with_reducible refine load_val_want HK.out 2 _ rfl rfl rfl rfl P1.out (by have := HA.out; omega) ?_)
        | (with_reducible refine load_val_want HK.out 1 _ rfl rfl rfl rfl Q1.out (by have := HB.out; omega) ?_)
        | (with_reducible refine load_val_want HK.out 2 _ rfl rfl rfl rfl P2.out (by have := HA.out; omega) ?_)
        | (with_reducible refine load_val_want HK.out 1 _ rfl rfl rfl rfl Q2.out (by have := HB.out; omega) ?_)
        | (with_reducible refine store_all HK.out 0 579 c_info rfl rfl _ _ rfl rfl rfl rfl (zer_length 579) (zer_length 579) ?_; intro u hk hs; clear hs; simp only [List.set_cons_zero] at hk; clear HK; have HK := Lib.hid hk; clear hk))
      exact bodyPost_ret (results_2 rfl Tryz.underlying38 rfl c_info _ HK.out 0 _ rfl rfl rfl (zer_length 579)) rfl ⟨rfl, HK.out.bel⟩
    | true =>
      have n1 : (p1 != q1) = false := by simp only [bne, t1, Bool.not_true]
      cases t2 : (p2 == q2) with
      | false =>
        have n2 : (p2 != q2) = true := by simp only [bne, t2, Bool.not_false]
        obtain ⟨e1, e2⟩ := cj_no (A := A) (B := B) (by rw [hsb]; simp only [t0, t1, t2, Bool.true_and, Bool.and_false])
        rw [e1, e2]; clear e1 e2
        go_enter Tryz.func56, Tryz.ntmps56
        go_wp2_with (first
          | (with_reducible refine box_new (R := A) HK.out rfl _ rfl rfl ?_; intro ba u hk hb; clear hb; clear HK; have HK := Lib.hid hk; clear hk)
          | (with_reducible refine box_new (R := B) HK.out rfl _ rfl rfl ?_; intro bb u hk hb; clear hb; clear HK; have HK := Lib.hid hk; clear hk)
          | (with_reducible refine alloc_zero HK.out 579 c_zero rfl rfl ?_; intro br u hn hk hb; clear hn hb; clear HK; have HK := Lib.hid hk; clear hk)
          | (with_reducible refine build_zero 579 c_build rfl rfl ?_)
          | (with_reducible refine load_val HK.out 2 rfl _ rfl rfl rfl P0.out (by have := HA.out; omega) ?_)
          | (with_reducible refine load_val HK.out 1 rfl _ rfl rfl rfl Q0.out (by have := HB.out; omega) ?_)
          | (with_reducible refine load_val HK.out 2 rfl _ rfl rfl rfl P1.out (by have := HA.out; omega) ?_)
          | (with_reducible refine load_val HK.out 1 rfl _ rfl rfl rfl Q1.out (by have := HB.out; omega) ?_)
          | (with_reducible refine load_val HK.out 2 rfl _ rfl rfl rfl P2.out (by have := HA.out; omega) ?_)
          | (with_reducible refine load_val HK.out 1 rfl _ rfl rfl rfl Q2.out (by have := HB.out; omega) ?_)
          | (with_reducible refine load_val_want HK.out 2 _ rfl rfl rfl rfl P0.out (by have := HA.out; omega) ?_)
          | (with_reducible refine load_val_want HK.out 1 _ rfl rfl rfl rfl Q0.out (by have := HB.out; omega) ?_)
          | (with_reducible refine load_val_want HK.out 2 _ rfl rfl rfl rfl P1.out (by have := HA.out; omega) ?_)
          | (with_reducible refine load_val_want HK.out 1 _ rfl rfl rfl rfl Q1.out (by have := HB.out; omega) ?_)
          | (with_reducible refine load_val_want HK.out 2 _ rfl rfl rfl rfl P2.out (by have := HA.out; omega) ?_)
          | (with_reducible refine load_val_want HK.out 1 _ rfl rfl rfl rfl Q2.out (by have := HB.out; omega) ?_)
          | (with_reducible refine store_all HK.out 0 579 c_info rfl rfl _ _ rfl rfl rfl rfl (zer_length 579) (zer_length 579) ?_; intro u hk hs; clear hs; simp only [List.set_cons_zero] at hk; clear HK; have HK := Lib.hid hk; clear hk))
        exact bodyPost_ret (results_2 rfl Tryz.underlying38 rfl c_info _ HK.out 0 _ rfl rfl rfl (zer_length 579)) rfl ⟨rfl, HK.out.bel⟩
      | true =>
        have n2 : (p2 != q2) = false := by simp only [bne, t2, Bool.not_true]
        obtain ⟨e1, e2⟩ := cj_yes (A := A) (B := B) (by rw [hsb]; simp only [t0, t1, t2, Bool.and_self])
        rw [e1, e2]; clear e1 e2
        go_enter Tryz.func56, Tryz.ntmps56
        go_wp2_with (first
          | (with_reducible refine box_new (R := A) HK.out rfl _ rfl rfl ?_; intro ba u hk hb; clear hb; clear HK; have HK := Lib.hid hk; clear hk)
          | (with_reducible refine box_new (R := B) HK.out rfl _ rfl rfl ?_; intro bb u hk hb; clear hb; clear HK; have HK := Lib.hid hk; clear hk)
          | (with_reducible refine alloc_zero HK.out 579 c_zero rfl rfl ?_; intro br u hn hk hb; clear hn hb; clear HK; have HK := Lib.hid hk; clear hk)
          | (with_reducible refine build_zero 579 c_build rfl rfl ?_)
          | (with_reducible refine load_val HK.out 2 rfl _ rfl rfl rfl P0.out (by have := HA.out; omega) ?_)
          | (with_reducible refine load_val HK.out 1 rfl _ rfl rfl rfl Q0.out (by have := HB.out; omega) ?_)
          | (with_reducible refine load_val HK.out 2 rfl _ rfl rfl rfl P1.out (by have := HA.out; omega) ?_)
          | (with_reducible refine load_val HK.out 1 rfl _ rfl rfl rfl Q1.out (by have := HB.out; omega) ?_)
          | (with_reducible refine load_val HK.out 2 rfl _ rfl rfl rfl P2.out (by have := HA.out; omega) ?_)
          | (with_reducible refine load_val HK.out 1 rfl _ rfl rfl rfl Q2.out (by have := HB.out; omega) ?_)
          | (with_reducible refine load_val_want HK.out 2 _ rfl rfl rfl rfl P0.out (by have := HA.out; omega) ?_)
          | (with_reducible refine load_val_want HK.out 1 _ rfl rfl rfl rfl Q0.out (by have := HB.out; omega) ?_)
          | (with_reducible refine load_val_want HK.out 2 _ rfl rfl rfl rfl P1.out (by have := HA.out; omega) ?_)
          | (with_reducible refine load_val_want HK.out 1 _ rfl rfl rfl rfl Q1.out (by have := HB.out; omega) ?_)
          | (with_reducible refine load_val_want HK.out 2 _ rfl rfl rfl rfl P2.out (by have := HA.out; omega) ?_)
          | (with_reducible refine load_val_want HK.out 1 _ rfl rfl rfl rfl Q2.out (by have := HB.out; omega) ?_)
          | (with_reducible refine load_part HK.out 2 288 Tryz.underlying36 rfl r_info rfl _ rfl rfl rfl (by have := HA.out; omega) ?_)
          | (with_reducible refine load_part HK.out 2 288 Tryz.underlying36 rfl r_info rfl _ rfl rfl rfl (by rw [splice_length]; have := HA.out; omega) ?_; rw [HQ.out])
          | (with_reducible refine load_part HK.out 1 288 Tryz.underlying36 rfl r_info rfl _ rfl rfl rfl (by have := HB.out; omega) ?_)
          | (go_at_call 92; (with_reducible refine (join_r (seg A 3 288) (seg B 3 288) HL1.out HL2.out _).mono ?_); rintro e u ⟨rfl, hb⟩; have hk := HK.out.call hb; clear hb; clear HK; have HK := Lib.hid hk; clear hk)
          | (go_at_call 92; (with_reducible refine (join_r (seg A 291 288) (seg B 291 288) HL3.out HL4.out _).mono ?_); rintro e u ⟨rfl, hb⟩; have hk := HK.out.call hb; clear hb; clear HK; have HK := Lib.hid hk; clear hk)
          | (with_reducible refine store_part HK.out 2 288 r_info rfl rfl _ _ rfl rfl rfl rfl HJ1.out (by have := HA.out; omega) ?_; intro u hk hs; clear hs; simp only [List.set_cons_zero, List.set_cons_succ] at hk; clear HK; have HK := Lib.hid hk; clear hk)
          | (with_reducible refine store_part HK.out 2 288 r_info rfl rfl _ _ rfl rfl rfl rfl HJ2.out (by rw [splice_length]; have := HA.out; omega) ?_; intro u hk hs; clear hs; simp only [List.set_cons_zero, List.set_cons_succ] at hk; clear HK; have HK := Lib.hid hk; clear hk)
          | (with_reducible refine load_all HK.out 2 579 Tryz.underlying38 rfl c_info rfl _ rfl rfl rfl (by rw [splice_length, splice_length]; exact HA.out) ?_)
          | (with_reducible refine store_all HK.out 0 579 c_info rfl rfl _ _ rfl rfl rfl rfl (by rw [splice_length, splice_length]; exact HA.out) (zer_length 579) ?_; intro u hk hs; clear hs; simp only [List.set_cons_zero] at hk; clear HK; have HK := Lib.hid hk; clear hk))
        exact bodyPost_ret (results_2 rfl Tryz.underlying38 rfl c_info _ HK.out 0 _ rfl rfl rfl (by rw [splice_length, splice_length]; exact HA.out)) rfl ⟨rfl, HK.out.bel⟩

end Go.Proofs.YtgblnlpfgdbnnaaGreat
