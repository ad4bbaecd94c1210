/- Rights (288 ints: Given, Used, then 16 rows of what each moved): the lists that they are, the cells that hold them, their parts, and what the operations on them do. -/
import Derived.Test.YtpbjencigepnfaaDraw
import Derived.Test.YtpbjencigepnfaaKeep
import Derived.Test.YtpbjencigepnfaaVecGrow
import Derived.Laws.StructEq
namespace Go.Proofs.Ytpbjencigepnfaa
open Go.ChangeShapes Go.WideShapes Go.ChangeAt Go.RowKit

/-! ### Parts of a list. -/
/-- n numbers from o on. -/
def seg (R : List Int) (o n : Nat) : List Int := (R.drop o).take n
theorem seg_length {R : List Int} {o n : Nat} (h : o + n ≤ R.length) : (seg R o n).length = n := by simp [seg]; omega
theorem seg_get {R : List Int} {o n i : Nat} (h : i < n) : (seg R o n).getD i 0 = R.getD (o + i) 0 := by
  simp [seg, List.getD, h, List.getElem?_drop]
theorem seg_all {R : List Int} {n : Nat} (h : R.length = n) : seg R 0 n = R := by simp [seg, ← h]
theorem seg_seg {R : List Int} {o n p m : Nat} (h : p + m ≤ n) : seg (seg R o n) p m = seg R (o + p) m := by
  simp only [seg, List.drop_take, List.take_take, List.drop_drop]
  rw [show min m (n - p) = m by omega]
theorem vals_seg (R : List Int) (o n : Nat) : vals (seg R o n) = ((vals R).drop o).take n := by simp [seg, vals]
theorem vals_extract (R : List Int) (o n : Nat) : (vals R).toArray.extract o (o + n) = (vals (seg R o n)).toArray := by
  rw [vals_seg]
  simp [List.extract_eq_take_drop]
/-- zs in the place of what lay from o on. -/
def splice (R : List Int) : Nat → List Int → List Int
  | _, [] => R
  | o, z :: zs => splice (R.set o z) (o + 1) zs
theorem splice_length : ∀ (zs : List Int) (R : List Int) (o : Nat), (splice R o zs).length = R.length
  | [], _, _ => rfl
  | z :: zs, R, o => by rw [splice, splice_length zs]; simp
theorem splice_get : ∀ (zs : List Int) (R : List Int) (o i : Nat), o + zs.length ≤ R.length → (splice R o zs).getD i 0 = if o ≤ i ∧ i < o + zs.length then zs.getD (i - o) 0 else R.getD i 0
  | [], R, o, i, _ => by rw [splice, if_neg (by simp)]
  | z :: zs, R, o, i, h => by
    simp only [List.length_cons] at h
    rw [splice, splice_get zs _ _ _ (by simp; omega), set_get (by omega)]
    by_cases h1 : i = o
    · subst h1
      rw [if_neg (by omega), if_pos rfl, if_pos (by simp)]
      simp
    · by_cases h2 : o + 1 ≤ i ∧ i < o + 1 + zs.length
      · rw [if_pos h2, if_pos (by simp; omega), show i - o = (i - (o + 1)) + 1 by omega]
        simp
      · rw [if_neg h2, if_neg h1, if_neg (by simp; omega)]
theorem splice_seg_same {R zs : List Int} {o n : Nat} (hn : zs.length = n) (h : o + n ≤ R.length) : seg (splice R o zs) o n = zs := by
  refine ext_get (by rw [seg_length (by rw [splice_length]; omega), hn]) fun k hk => ?_
  rw [seg_length (by rw [splice_length]; omega)] at hk
  rw [seg_get hk, splice_get _ _ _ _ (by omega), if_pos (by omega)]
  congr 1; omega
theorem splice_seg_apart {R zs : List Int} {o p m : Nat} (h : o + zs.length ≤ R.length) (hp : p + m ≤ R.length) (ha : p + m ≤ o ∨ o + zs.length ≤ p) : seg (splice R o zs) p m = seg R p m := by
  refine ext_get (by rw [seg_length (by rw [splice_length]; omega), seg_length hp]) fun k hk => ?_
  rw [seg_length (by rw [splice_length]; omega)] at hk
  rw [seg_get hk, seg_get hk, splice_get _ _ _ _ h, if_neg (by omega)]
theorem splice_all {R zs : List Int} (h : zs.length = R.length) : splice R 0 zs = zs := by
  refine ext_get (by rw [splice_length, h]) fun k hk => ?_
  rw [splice_length] at hk
  rw [splice_get _ _ _ _ (by omega), if_pos (by omega)]; simp
/-- n zeros. -/
def zer (n : Nat) : List Int := List.replicate n 0
theorem zer_length (n : Nat) : (zer n).length = n := by simp [zer]
theorem zer_get (n i : Nat) : (zer n).getD i 0 = 0 := by
  simp only [zer, List.getD, List.getElem?_replicate]; split <;> rfl

/-! ### Blocks. -/
theorem Blk.seg {w : World} {b : Nat} {t : TypeId} {R : List Int} (h : Blk w b t R) {o n : Nat} (hr : o + n ≤ R.length) : w.rangeAt b o (vals (seg R o n)) := fun j v hv => by
  obtain ⟨hj, rfl⟩ := vals_at hv
  rw [seg_length hr] at hj
  rw [h.cell (by omega), seg_get hj]
theorem Blk.thereAt {w : World} {b : Nat} {t : TypeId} {R : List Int} (h : Blk w b t R) {o n : Nat} (hr : o + n ≤ R.length) : w.there b o n := fun j hj => ⟨by rw [h.cell (by omega)]; rfl, h.frozen _⟩
theorem Blk.setCells : ∀ (zs : List Int) {w : World} {b : Nat} {t : TypeId} {R : List Int} (_ : Blk w b t R) (o : Nat), Blk (w.setCells b o (vals zs)) b t (splice R o zs)
  | [], _, _, _, _, h, _ => h
  | z :: zs, w, b, t, R, h, o => by
    have := Blk.setCells zs (h.setCell o z) (o + 1)
    simpa only [vals, List.map_cons, World.setCells, splice] using this
theorem Blk.setCells_apart : ∀ (zs : List Int) {w : World} {b g : Nat} {t : TypeId} {R : List Int} (_ : Blk w b t R) (o : Nat), b ≠ g → Blk (w.setCells g o (vals zs)) b t R
  | [], _, _, _, _, _, h, _, _ => h
  | z :: zs, w, b, g, t, R, h, o, hne => by
    have := Blk.setCells_apart zs (h.apart ⟨g, o, none⟩ (.int .i64 z) hne) (o + 1) hne
    simpa only [vals, List.map_cons, World.setCells] using this
theorem below_setCells : ∀ (zs : List Int) {B : Nat} {a w : World} (_ : Below B a w) {g : Nat} (_ : B ≤ g) (o : Nat), Below B a (w.setCells g o (vals zs))
  | [], _, _, _, h, _, _, _ => h
  | z :: zs, B, a, w, h, g, hg, o => by
    have := below_setCells zs (h.setCell (p := ⟨g, o, none⟩) hg (.int .i64 z)) hg (o + 1)
    simpa only [vals, List.map_cons, World.setCells] using this

/-- Below w's end all is as it was; in each of these blocks of the call's own lie these numbers. -/
structure KeepR (w : World) (l : List (Nat × TypeId × List Int)) (u : World) : Prop where
  bel : Below w.heap.size w u
  blk : ∀ x ∈ l, w.heap.size ≤ x.1 ∧ Blk u x.1 x.2.1 x.2.2
  apart : (l.map Prod.fst).Nodup

theorem KeepR.start (w : World) : KeepR w [] w := ⟨Below.refl _ _, by simp, by simp⟩
theorem KeepR.call {w u u' : World} {l : List (Nat × TypeId × List Int)} (h : KeepR w l u) (hb : Below u.heap.size u u') : KeepR w l u' :=
  ⟨h.bel.trans (hb.mono h.bel.size), fun x hx => ⟨(h.blk x hx).1, (h.blk x hx).2.below hb (h.blk x hx).2.lt⟩, h.apart⟩
theorem KeepR.drew {w u : World} {l : List (Nat × TypeId × List Int)} (h : KeepR w l u) : KeepR w l u.drew := ⟨h.bel.drew, h.blk, h.apart⟩
theorem KeepR.drewN {w u : World} {l : List (Nat × TypeId × List Int)} (h : KeepR w l u) (n : Nat) : KeepR w l (u.drewN n) := ⟨below_drewN h.bel n, h.blk, h.apart⟩
theorem KeepR.get {w u : World} {l : List (Nat × TypeId × List Int)} (h : KeepR w l u) (i : Nat) {b : Nat} {t : TypeId} {zs : List Int} (hi : l[i]? = some (b, t, zs)) : Blk u b t zs := (h.blk _ (List.mem_of_getElem? hi)).2
theorem KeepR.cons {w u : World} {l : List (Nat × TypeId × List Int)} (h : KeepR w l u) {u' : World} (hb : Below u.heap.size u u') {b : Nat} {t : TypeId} {zs : List Int} (hn : b = u.heap.size) (hB : Blk u' b t zs) : KeepR w ((b, t, zs) :: l) u' := by
  have h1 := h.call hb
  refine ⟨h1.bel, fun x hx => ?_, ?_⟩
  · rcases List.mem_cons.1 hx with rfl | hx
    · exact ⟨hn ▸ h.bel.size, hB⟩
    · exact h1.blk x hx
  · simp only [List.map_cons, List.nodup_cons]
    refine ⟨fun hm => ?_, h.apart⟩
    obtain ⟨x, hx, e⟩ := List.mem_map.1 hm
    have := (h.blk x hx).2.lt
    omega
theorem KeepR.new {w u : World} {l : List (Nat × TypeId × List Int)} (h : KeepR w l u) {t : TypeId} {zs : List Int} {n : Nat} (hn : n = u.heap.size) : KeepR w ((n, t, zs) :: l) (u.alloc (.cells (vals zs).toArray t)) :=
  h.cons (box u t zs).2 hn (by rw [hn]; exact (box u t zs).1)
theorem KeepR.tail {w u : World} {x : Nat × TypeId × List Int} {l : List (Nat × TypeId × List Int)} (h : KeepR w (x :: l) u) : KeepR w l u := ⟨h.bel, fun y hy => h.blk y (List.mem_cons_of_mem _ hy), (List.nodup_cons.1 (by simpa using h.apart)).2⟩
theorem nodup_get {l : List Nat} (h : l.Nodup) {i j : Nat} {x : Nat} (hi : l[i]? = some x) (hj : l[j]? = some x) : i = j := by
  obtain ⟨h1, e1⟩ := List.getElem?_eq_some_iff.1 hi
  obtain ⟨h2, e2⟩ := List.getElem?_eq_some_iff.1 hj
  have hp := List.pairwise_iff_getElem.1 h
  rcases Nat.lt_trichotomy i j with h3 | h3 | h3
  · exact absurd (e1.trans e2.symm) (hp i j h1 h2 h3)
  · exact h3
  · exact absurd (e2.trans e1.symm) (hp j i h2 h1 h3)
/-- A kept block is written. -/
theorem KeepR.put {w u : World} {l : List (Nat × TypeId × List Int)} (h : KeepR w l u) (i : Nat) {b : Nat} {t : TypeId} {R : List Int} (hi : l[i]? = some (b, t, R)) {u' : World} {S : List Int} (hB : Blk u' b t S)
    (hb : ∀ (k : Nat), k ≠ b → u'.heap[k]? = u.heap[k]?) (hbel : Below w.heap.size w u') : KeepR w (l.set i (b, t, S)) u' := by
  refine ⟨hbel, fun x hx => ?_, ?_⟩
  · obtain ⟨j, hj⟩ := List.mem_iff_getElem?.1 hx
    rw [List.getElem?_set] at hj
    by_cases hij : i = j
    · rw [if_pos hij] at hj
      split at hj
      · injection hj with hj; subst hj
        exact ⟨(h.blk _ (List.mem_of_getElem? hi)).1, hB⟩
      · cases hj
    · rw [if_neg hij] at hj
      have h1 := h.blk x (List.mem_of_getElem? hj)
      refine ⟨h1.1, ?_⟩
      have hne : x.1 ≠ b := fun e => hij (nodup_get h.apart (x := b) (by simp [hi]) (by simp [hj, e]))
      exact (hb x.1 hne).trans h1.2
  · have : (l.set i (b, t, S)).map Prod.fst = l.map Prod.fst := by
      rw [List.map_set]
      apply List.ext_getElem?
      intro j
      rw [List.getElem?_set]
      split
      · rename_i e; subst e
        split
        · simp [hi]
        · rename_i hl; simp only [List.length_map] at hl; have := (List.getElem?_eq_some_iff.1 hi).1; omega
      · rfl
    rw [this]; exact h.apart
theorem setCells_else (b : Nat) (vs : List Value) : ∀ (o : Nat) (u : World) (k : Nat), k ≠ b → (u.setCells b o vs).heap[k]? = u.heap[k]? := by
  induction vs with
  | nil => intro o u k _; rfl
  | cons v vs ih => intro o u k hk; rw [World.setCells, ih _ _ _ hk]; exact heap_setCell_other u ⟨b, o, none⟩ k v hk
theorem KeepR.setCells {w u : World} {l : List (Nat × TypeId × List Int)} (h : KeepR w l u) (i : Nat) {b : Nat} {t : TypeId} {R : List Int} (hi : l[i]? = some (b, t, R)) (o : Nat) (zs : List Int) : KeepR w (l.set i (b, t, splice R o zs)) (u.setCells b o (vals zs)) := by
  have h1 := h.blk _ (List.mem_of_getElem? hi)
  exact h.put i hi (h1.2.setCells zs o) (setCells_else b (vals zs) o u) (below_setCells zs h.bel h1.1 o)
theorem KeepR.setRow {w u : World} {l : List (Nat × TypeId × List Int)} (h : KeepR w l u) (i : Nat) {b : Nat} {t : TypeId} {R : List Int} (hi : l[i]? = some (b, t, R)) (zs : List Int) : KeepR w (l.set i (b, t, zs)) (u.setRow b (vals zs).toArray) :=
  have h1 := h.blk _ (List.mem_of_getElem? hi)
  h.put i hi (h1.2.setRow zs) (fun k hk => _root_.Go.setRow_other u b k _ hk) (below_setRow h.bel h1.1 _)

/-! ### Operations at a plain region's list. -/
/-- A part of a kept block is loaded. -/
theorem load_part {ops : Array Oper} {rest : List Oper} {o : Oper} {a : Act} {w u : World} {l : List (Nat × TypeId × List Int)} {Q : Exit → Act → World → Prop} (hk : KeepR w l u) (i : Nat) (n : Nat) {ty : TypeId} {d : TypeDesc} (hu : Try.prog.underlying ty = some d) (hd : d.isRow = true) (hs : (Try.prog.info? ty).map (·.size) = some n)
    (hgd : o.guard = none) (x : Operand) (ho : o.op = .load ty x) {b off : Nat} {t : TypeId} {R : List Int} (hi : l[i]? = some (b, t, R)) (hx : a.eval x = .pointer (some ⟨b, off, none⟩)) (hr : off + n ≤ R.length)
    (h : wpList Try.prog ops Q rest (a.put o.dst (.agg (vals (seg R off n)).toArray)) u) : wpList Try.prog ops Q (o :: rest) a u :=
  wpList_load_mid hgd ty x ho b off hx _ d ((hk.get i hi).seg hr) hu hd (by rw [vals_length, seg_length hr]; exact hs) h
/-- The whole of it. -/
theorem load_all {ops : Array Oper} {rest : List Oper} {o : Oper} {a : Act} {w u : World} {l : List (Nat × TypeId × List Int)} {Q : Exit → Act → World → Prop} (hk : KeepR w l u) (i : Nat) (n : Nat) {ty : TypeId} {d : TypeDesc} (hu : Try.prog.underlying ty = some d) (hd : d.isRow = true) (hs : (Try.prog.info? ty).map (·.size) = some n)
    (hgd : o.guard = none) (x : Operand) (ho : o.op = .load ty x) {b : Nat} {t : TypeId} {R : List Int} (hi : l[i]? = some (b, t, R)) (hx : a.eval x = .pointer (some ⟨b, 0, none⟩)) (hr : R.length = n)
    (h : wpList Try.prog ops Q rest (a.put o.dst (.agg (vals R).toArray)) u) : wpList Try.prog ops Q (o :: rest) a u :=
  load_part hk i n hu hd hs hgd x ho hi hx (by omega) (by rw [seg_all hr]; exact h)
/-- Numbers are stored into a part of a kept block. -/
theorem store_part {ops : Array Oper} {rest : List Oper} {o : Oper} {a : Act} {w u : World} {l : List (Nat × TypeId × List Int)} {Q : Exit → Act → World → Prop} (hk : KeepR w l u) (i : Nat) (n : Nat) {ty : TypeId} (hs : (Try.prog.info? ty).map (·.size) = some n)
    (hgd : o.guard = none) (hd : o.dst = none) (x y : Operand) (ho : o.op = .store ty x y) {b off : Nat} {t : TypeId} {R zs : List Int} (hi : l[i]? = some (b, t, R)) (hx : a.eval x = .pointer (some ⟨b, off, none⟩)) (hy : a.eval y = .agg (vals zs).toArray) (hz : zs.length = n) (hr : off + n ≤ R.length)
    (h : ∀ u', KeepR w (l.set i (b, t, splice R off zs)) u' → (∀ k, k ≠ b → u'.heap[k]? = u.heap[k]?) → wpList Try.prog ops Q rest a u') : wpList Try.prog ops Q (o :: rest) a u :=
  wpList_store_mid hgd ty x y ho b off _ hx hy (by simp only [List.size_toArray, vals_length, hz]; exact (hk.get i hi).thereAt hr) (by simp only [List.size_toArray, vals_length, hz]; exact hs) (vals_all zs)
    (by rw [hd]; simpa [Act.put] using h _ (hk.setCells i hi off zs) (setCells_else b (vals zs) off u))
theorem store_all {ops : Array Oper} {rest : List Oper} {o : Oper} {a : Act} {w u : World} {l : List (Nat × TypeId × List Int)} {Q : Exit → Act → World → Prop} (hk : KeepR w l u) (i : Nat) (n : Nat) {ty : TypeId} (hs : (Try.prog.info? ty).map (·.size) = some n)
    (hgd : o.guard = none) (hd : o.dst = none) (x y : Operand) (ho : o.op = .store ty x y) {b : Nat} {t : TypeId} {R zs : List Int} (hi : l[i]? = some (b, t, R)) (hx : a.eval x = .pointer (some ⟨b, 0, none⟩)) (hy : a.eval y = .agg (vals zs).toArray) (hz : zs.length = n) (hr : R.length = n)
    (h : ∀ u', KeepR w (l.set i (b, t, zs)) u' → (∀ k, k ≠ b → u'.heap[k]? = u.heap[k]?) → wpList Try.prog ops Q rest a u') : wpList Try.prog ops Q (o :: rest) a u :=
  store_part hk i n hs hgd hd x y ho hi hx hy hz (by omega) (by rw [splice_all (by omega)]; exact h)
/-- A new variable of zeros. -/
theorem alloc_zero {ops : Array Oper} {rest : List Oper} {o : Oper} {a : Act} {w u : World} {l : List (Nat × TypeId × List Int)} {Q : Exit → Act → World → Prop} (hk : KeepR w l u) (n : Nat) {ty : TypeId} (hz : (Try.prog.info? ty).bind (·.zero) = some (.agg (vals (zer n)).toArray))
    (hgd : o.guard = none) (ho : o.op = .alloc ty)
    (h : ∀ b u', b = u.heap.size → KeepR w ((b, ty, zer n) :: l) u' → Below u.heap.size u u' → wpList Try.prog ops Q rest (a.put o.dst (.pointer (some ⟨b, 0, none⟩))) u') : wpList Try.prog ops Q (o :: rest) a u :=
  wpList_plain hgd fun K hK => by
    have e : (Instr.alloc ty true (.tuple #[])).run Try.prog u = .ok (.pointer (some ⟨u.heap.size, 0, none⟩)) (u.alloc (.cells (vals (zer n)).toArray ty)) := by
      cases hq : Try.prog.info? ty with
      | none => simp [hq] at hz
      | some i =>
        simp only [hq, Option.bind_some] at hz
        simp [Instr.alloc, zeroValue, typeInfo, hq, hz, newVar, newRow, newObj, Value.cells]
        rfl
    unfold Oper.wp execOp
    simp only [ho, Sem.run_bind, Sem.run_pure, Result.andThen_ok, e]
    exact hK _ _ (h _ _ rfl (hk.new rfl) (box u _ _).2)
/-- A value, boxed. -/
theorem box_new {ops : Array Oper} {rest : List Oper} {o : Oper} {a : Act} {w u : World} {l : List (Nat × TypeId × List Int)} {Q : Exit → Act → World → Prop} (hk : KeepR w l u) {ty : TypeId}
    (hgd : o.guard = none) (x : Operand) (ho : o.op = .box ty x) {R : List Int} (hx : a.eval x = .agg (vals R).toArray)
    (h : ∀ b u', KeepR w ((b, ty, R) :: l) u' → Below u.heap.size u u' → wpList Try.prog ops Q rest (a.put o.dst (.pointer (some ⟨b, 0, none⟩))) u') : wpList Try.prog ops Q (o :: rest) a u :=
  wpList_plain hgd fun K hK => by
    have e : (Instr.box ty (.agg (vals R).toArray)).run Try.prog u = .ok (.pointer (some ⟨u.heap.size, 0, none⟩)) (u.alloc (.cells (vals R).toArray ty)) := by
      simp [Instr.box, newVar, newRow, newObj, Value.cells]
      rfl
    unfold Oper.wp execOp
    simp only [ho, hx, Sem.run_bind, Sem.run_pure, Result.andThen_ok, e]
    exact hK _ _ (h _ _ (hk.new rfl) (box u _ _).2)
/-- The zero value, built. -/
theorem build_zero {ops : Array Oper} {rest : List Oper} {o : Oper} {a : Act} {u : World} {Q : Exit → Act → World → Prop} (n : Nat) {ty : TypeId} (he : ∀ W, (Instr.build ty #[]).run Try.prog W = .ok (.agg (vals (zer n)).toArray) W)
    (hgd : o.guard = none) (ho : o.op = .build ty #[])
    (h : wpList Try.prog ops Q rest (a.put o.dst (.agg (vals (zer n)).toArray)) u) : wpList Try.prog ops Q (o :: rest) a u :=
  wpList_plain hgd fun K hK => by
    unfold Oper.wp execOp
    simp only [ho, List.map_toArray, List.map_nil, Sem.run_bind, Sem.run_pure, Result.andThen_ok, he]
    exact hK _ _ h

/-- Rights that lie in a result's cell, and an error. -/
theorem results_r2 {fn : Func} {p q : Tmp} (h : fn.results = #[.cell p 26, .tmp q]) (tmps : Array Value) {w u : World} {l : List (Nat × TypeId × List Int)} (hk : KeepR w l u) (i : Nat) {b : Nat} {R : List Int} (v : Value)
    (hi : l[i]? = some (b, 26, R)) (hp : tmps.getD p undef = .pointer (some ⟨b, 0, none⟩)) (hq : tmps.getD q undef = v) (hl : R.length = 288) : (results fn tmps).run Try.prog u = .ok (.tuple #[.agg (vals R).toArray, v]) u := by
  have hp' : tmps[p]?.getD undef = .pointer (some ⟨b, 0, none⟩) := by simpa using hp
  have hq' : tmps[q]?.getD undef = v := by simpa using hq
  have hs : (Try.prog.info? 26).map (·.size) = some 288 := by kernel_rfl
  have hr := run_loadVar_row (P := Try.prog) u b _ 26 _ (0, 0) _ (hk.get i hi) Try.underlying26 rfl (by rw [List.size_toArray, vals_length, hl]; exact hs)
  simp [results, h, hp', hq', asAddr, hr]
theorem results_r {fn : Func} {p : Tmp} {ty : TypeId} {n : Nat} {d : TypeDesc} (h : fn.results = #[.cell p ty]) (hu : Try.prog.underlying ty = some d) (hd : d.isRow = true) (hs : (Try.prog.info? ty).map (·.size) = some n) (tmps : Array Value) {w u : World} {l : List (Nat × TypeId × List Int)} (hk : KeepR w l u) (i : Nat) {b : Nat} {R : List Int}
    (hi : l[i]? = some (b, ty, R)) (hp : tmps.getD p undef = .pointer (some ⟨b, 0, none⟩)) (hl : R.length = n) : (results fn tmps).run Try.prog u = .ok (.agg (vals R).toArray) u :=
  results_cell_row h tmps u b _ _ (0, 0) d hp (hk.get i hi) hu (by cases d <;> simp_all) (by rw [List.size_toArray, vals_length, hl]; exact hs)

/-! ### What the types are. -/
theorem r_info : (Try.prog.info? 26).map (·.size) = some 288 := by kernel_rfl
theorem m_info : (Try.prog.info? 24).map (·.size) = some 256 := by kernel_rfl
theorem r_zero : (Try.prog.info? 26).bind (·.zero) = some (.agg (vals (zer 288)).toArray) := by kernel_rfl
theorem v_zero : (Try.prog.info? 23).bind (·.zero) = some (.agg (vals (zer 16)).toArray) := by kernel_rfl
theorem r_build (W : World) : (Instr.build 26 #[]).run Try.prog W = .ok (.agg (vals (zer 288)).toArray) W := by kernel_rfl
end Go.Proofs.Ytpbjencigepnfaa
