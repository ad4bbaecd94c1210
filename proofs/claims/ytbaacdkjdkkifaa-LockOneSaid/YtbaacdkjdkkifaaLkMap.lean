/- A map from (Seq, Ver) to a lock, that the call itself has made: which locks are in it, and what the operations on it do. -/
import Derived.Test.YtbaacdkjdkkifaaLkInv
import Derived.Maps.OwnSet
import Derived.Maps.Views
import Derived.DeepKeys4
namespace Go.Proofs.Ytbaacdkjdkkifaa
open Go.ChangeShapes Go.WideShapes Go.ChangeAt Go.RowKit

/-- How a lock reads: its four numbers. -/
def numD (v : Value) : DataW Unit := match v with
  | .int .i64 n => .lit (.int .i64 n)
  | _ => .nil
def lkR (v : Value) : Option (DataW Unit × List MemPlace) := match v with
  | .agg cs => some (.agg (cs.toList.map numD), [])
  | _ => none
def dat (a : Lk) : DataW Unit := .agg [.lit (.int .i64 a.s), .lit (.int .i64 a.v), .lit (.int .i64 a.h), .lit (.int .i64 a.x)]
theorem lkR_mk (a : Lk) : lkR (.agg (vals a.l).toArray) = some (dat a, []) := rfl
theorem numD_inv {v : Value} {n : Int} (h : numD v = .lit (.int .i64 n)) : v = .int .i64 n := by
  unfold numD at h
  split at h
  · injection h with h; injection h with _ h; rw [h]
  · cases h
theorem lkR_inv {v : Value} {a : Lk} {ps : List MemPlace} (h : lkR v = some (dat a, ps)) : v = .agg (vals a.l).toArray := by
  unfold lkR at h
  split at h
  · rename_i cs
    obtain ⟨l⟩ := cs
    injection h with h; injection h with h _
    unfold dat at h
    injection h with h
    have hl : l.length = 4 := by simpa using congrArg List.length h
    match l, hl, h with
    | [c0, c1, c2, c3], _, h =>
      simp only [List.map_cons, List.map_nil, List.cons.injEq, and_true] at h
      obtain ⟨h0, h1, h2, h3⟩ := h
      rw [numD_inv h0, numD_inv h1, numD_inv h2, numD_inv h3]
      rfl
  · cases h

theorem mp_laid : laidOutB Try.prog = true := by kernel_rfl
theorem mp_keyed : Maps.Keyed Try.prog 34 :=
  Maps.Keyed.of_law (deep_law_laid mp_laid (m := 3) (by omega) (of_decide_eq_true (by kernel_rfl)) (by kernel_rfl) (by kernel_rfl))
/-- The key's literal. -/
def kl (s v : Int) : Lit := .string (keyBytes [.int .i64 s, .int .i64 v])
def ok64 (n : Int) : Prop := (Lit.int .i64 n).wf = true
theorem ok64_of {n : Int} (h : isB n = true) : ok64 n := by
  obtain ⟨h1, h2⟩ := isB_iff.1 h
  exact WalkArith.wf_i64 (by omega)
theorem keyOf_mk {s v : Int} (hs : ok64 s) (hv : ok64 v) : keyOf Try.prog 34 (.agg #[.int .i64 s, .int .i64 v]) = some (kl s v) := by
  have h1 : Try.prog.keyType 34 = true := by kernel_rfl
  have h2 : (Value.agg #[.int .i64 s, .int .i64 v]).formed Try.prog 34 = true := by kernel_rfl
  have h3 : Try.prog.keyLits (Try.prog.types.size + 1) 34 [.int .i64 s, .int .i64 v] = some [.int .i64 s, .int .i64 v] := by
    have c1 : Try.prog.cellsOf 3 = 1 := by kernel_rfl
    have c2 : Try.prog.cellsOf 34 = 2 := by kernel_rfl
    obtain ⟨d, hd⟩ : ∃ d, Try.prog.types.size + 1 = d + 2 := ⟨Try.prog.types.size - 1, by have : 1 ≤ Try.prog.types.size := of_decide_eq_true (by kernel_rfl); omega⟩
    rw [hd]
    unfold ok64 at hs hv
    simp [Program.keyLits, Try.underlying34, Try.underlying3, c1, c2, hs, hv, List.range_succ, List.range_zero]
  unfold keyOf
  rw [Try.underlying34]
  show (if (Try.prog.keyType 34 && (Value.agg #[.int .i64 s, .int .i64 v]).formed Try.prog 34) = true then (Try.prog.keyLits (Try.prog.types.size + 1) 34 [.int .i64 s, .int .i64 v]).map (fun ls => Lit.string (keyBytes ls)) else none) = _
  rw [h1, h2, h3]
  rfl
theorem kl_inj {s v s' v' : Int} (h1 : ok64 s) (h2 : ok64 v) (h3 : ok64 s') (h4 : ok64 v') (h : kl s v = kl s' v') : s = s' ∧ v = v' := by
  have e1 := keyOf_mk h1 h2
  have e2 := keyOf_mk h3 h4
  rw [← h] at e2
  have := mp_keyed.inj e1 e2
  injection this with this
  have := congrArg Array.toList this
  simp only [List.cons.injEq, Value.int.injEq, true_and, and_true] at this
  exact this
theorem kl_key (s v : Int) : WideAt.IsKeyLit (kl s v) := trivial
theorem mp_zero (w : World) : (zeroValue 23).run Try.prog w = .ok (.agg (vals z4.l).toArray) w := by kernel_rfl

/-- Block b is the map of these locks by their Seq and Ver; at most n were laid in. -/
def MapAt (u : World) (b n : Nat) (seen : List Lk) : Prop :=
  ∃ D : DataW Unit, u.ownsMap Try.prog 34 lkR b n D ∧ Maps.IsMap D ∧ (∀ y ∈ seen, ok64 y.s ∧ ok64 y.v ∧ Maps.has D (kl y.s y.v) = true ∧ ∀ z, D.atKey (kl y.s y.v) z = dat y) ∧
    ∀ s v, ok64 s → ok64 v → (∀ y ∈ seen, y.s = s → y.v = v → False) → Maps.has D (kl s v) = false
theorem MapAt.is {u : World} {b n : Nat} {seen : List Lk} (h : MapAt u b n seen) : ∃ es c, u.heap[b]? = some (.map es c) := by
  obtain ⟨D, ⟨es, c, hb, _⟩, _⟩ := h
  exact ⟨es, c, hb⟩
theorem MapAt.turn {u u' : World} {b n : Nat} {seen : List Lk} (h : MapAt u b n seen) (hb : u'.heap[b]? = u.heap[b]?) : MapAt u' b n seen := by
  obtain ⟨D, ⟨es, c, h1, h2, h3, h4⟩, h5⟩ := h
  exact ⟨D, ⟨es, c, hb.trans h1, h2, h3, h4⟩, h5⟩
theorem MapAt.lt {u : World} {b n : Nat} {seen : List Lk} (h : MapAt u b n seen) : b < u.heap.size := by
  obtain ⟨es, c, hb⟩ := h.is
  exact (Array.getElem?_eq_some_iff.1 hb).1
theorem MapAt.below {u u' : World} {b n : Nat} {seen : List Lk} (h : MapAt u b n seen) (hb : Below u.heap.size u u') : MapAt u' b n seen := h.turn (hb.block b h.lt)
theorem MapAt.drew {u : World} {b n : Nat} {seen : List Lk} (h : MapAt u b n seen) : MapAt u.drew b n seen := h.turn rfl
theorem MapAt.ne {u : World} {b n : Nat} {seen : List Lk} (h : MapAt u b n seen) {g : Nat} {t : TypeId} {R : List Int} (hg : Blk u g t R) : b ≠ g := by
  rintro rfl
  obtain ⟨es, c, hb⟩ := h.is
  unfold Blk at hg
  rw [hb] at hg
  cases hg
theorem MapAt.store {u u' : World} {b n : Nat} {seen : List Lk} (h : MapAt u b n seen) {g : Nat} {t : TypeId} {R : List Int} (hg : Blk u g t R) (hs : ∀ k, k ≠ g → u'.heap[k]? = u.heap[k]?) : MapAt u' b n seen := h.turn (hs b (h.ne hg))
theorem MapAt.mono {u : World} {b n n' : Nat} {seen : List Lk} (h : MapAt u b n seen) (hn : n ≤ n') : MapAt u b n' seen := by
  obtain ⟨D, h1, h2⟩ := h
  exact ⟨D, h1.mono hn, h2⟩
/-- What was in it is in it. -/
theorem MapAt.again {u : World} {b n : Nat} {seen : List Lk} {X : Lk} (h : MapAt u b n (X :: seen)) (hX : X ∈ seen) : MapAt u b n seen := by
  obtain ⟨D, h1, h2, h3, h4⟩ := h
  refine ⟨D, h1, h2, fun y hy => h3 y (List.mem_cons_of_mem _ hy), fun s v hs hv hno => h4 s v hs hv fun y hy => ?_⟩
  rcases List.mem_cons.1 hy with e | hy'
  · rw [e]; exact hno X hX
  · exact hno y hy'
theorem MapAt.made (u : World) : MapAt (u.alloc (.map #[] 0)) u.heap.size 0 [] :=
  ⟨.map [], World.ownsMap_made u Try.prog 34 lkR, Maps.isMap_empty, fun y hy => absurd hy (by simp), fun _ _ _ _ _ => rfl⟩
theorem MapAt.put {u : World} {b n : Nat} {seen : List Lk} (h : MapAt u b n seen) (hn : n < 1000) (X : Lk) (hs : ok64 X.s) (hv : ok64 X.v) (hone : ∀ y ∈ seen, y.s = X.s → y.v = X.v → y = X) :
    ∃ u', (Instr.mapUpdate 35 (.map (some b)) (.agg #[.int .i64 X.s, .int .i64 X.v]) (.agg (vals X.l).toArray)).run Try.prog u = .ok () u' ∧ MapAt u' b (n + 1) (X :: seen) ∧ u.mapTurned u' b := by
  obtain ⟨D, h1, h2, h3, h4⟩ := h
  obtain ⟨u', hr, hu, ht⟩ := h1.store mp_keyed Try.underlying35 (by unfold maxLen; omega) (keyOf_mk hs hv) (lkR_mk X)
  refine ⟨u', hr, ⟨_, hu, h2.put _ _, fun y hy => ?_, fun s v hs' hv' hno => ?_⟩, ht⟩
  · by_cases hk : y.s = X.s ∧ y.v = X.v
    · have e : y = X := by
        rcases List.mem_cons.1 hy with e | hy'
        · exact e
        · exact hone y hy' hk.1 hk.2
      subst e
      exact ⟨hs, hv, Maps.has_put_same h2 (kl_key _ _) _, fun z => Maps.atKey_put_same h2 (kl_key _ _) _ z⟩
    · rcases List.mem_cons.1 hy with e | hy'
      · exact absurd ⟨by rw [e], by rw [e]⟩ hk
      · obtain ⟨a1, a2, a3, a4⟩ := h3 y hy'
        have hne : kl y.s y.v ≠ kl X.s X.v := fun e => hk (kl_inj a1 a2 hs hv e)
        exact ⟨a1, a2, by rw [Maps.has_put_other hne]; exact a3, fun z => by rw [Maps.atKey_put_other hne]; exact a4 z⟩
  · have hne : kl s v ≠ kl X.s X.v := fun e => by
      obtain ⟨e1, e2⟩ := kl_inj hs' hv' hs hv e
      exact hno X (List.mem_cons_self ..) e1.symm e2.symm
    rw [Maps.has_put_other hne]
    exact h4 s v hs' hv' fun y hy => hno y (List.mem_cons_of_mem _ hy)
theorem MapAt.hit {u : World} {b n : Nat} {seen : List Lk} (h : MapAt u b n seen) {X : Lk} (hX : X ∈ seen) :
    (Instr.lookup 35 (.map (some b)) (.agg #[.int .i64 X.s, .int .i64 X.v]) true).run Try.prog u = .ok (.tuple #[.agg (vals X.l).toArray, .bool true]) u := by
  obtain ⟨D, h1, h2, h3, h4⟩ := h
  obtain ⟨a1, a2, a3, a4⟩ := h3 X hX
  obtain ⟨v, ps, hr, hv⟩ := h1.look_ok mp_keyed Try.underlying35 (mp_zero u) (lkR_mk z4) (keyOf_mk a1 a2)
  rw [a4] at hv
  rw [hr, a3, lkR_inv hv]
theorem MapAt.miss {u : World} {b n : Nat} {seen : List Lk} (h : MapAt u b n seen) {X : Lk} (hs : ok64 X.s) (hv : ok64 X.v) (hX : ∀ y ∈ seen, y.s = X.s → y.v = X.v → False) :
    (Instr.lookup 35 (.map (some b)) (.agg #[.int .i64 X.s, .int .i64 X.v]) true).run Try.prog u = .ok (.tuple #[.agg (vals z4.l).toArray, .bool false]) u := by
  obtain ⟨D, h1, h2, h3, h4⟩ := h
  have a3 := h4 _ _ hs hv hX
  obtain ⟨v, ps, hr, hv'⟩ := h1.look_ok mp_keyed Try.underlying35 (mp_zero u) (lkR_mk z4) (keyOf_mk hs hv)
  rw [Maps.atKey_of_not_has a3] at hv'
  rw [hr, a3, lkR_inv hv']
theorem KeepR.turned {w u u' : World} {l : List (Nat × TypeId × List Int)} (h : KeepR w l u) {b : Nat} (hb : w.heap.size ≤ b) (ht : u.mapTurned u' b) : KeepR w l u' := by
  have hg := ht.grown
  obtain ⟨es, c, _, _, hm, _⟩ := ht
  have hlt : b < u.heap.size := (Array.getElem?_eq_some_iff.1 hm).1
  refine ⟨?_, fun x hx => ⟨(h.blk x hx).1, ?_⟩, h.apart⟩
  · exact ⟨hg.os.trans h.bel.os, hg.tape.trans h.bel.tape, hg.output.trans h.bel.output, Nat.le_trans h.bel.size hg.size, fun k hk => (hg.block k (Nat.lt_of_lt_of_le hk h.bel.size) (fun e => by injection e with e; omega)).trans (h.bel.block k hk)⟩
  · have hx := (h.blk x hx).2
    have hne : some x.1 ≠ some b := fun e => by
      injection e with e
      unfold Blk at hx
      rw [e, hm] at hx
      cases hx
    exact (hg.block x.1 hx.lt hne).trans hx
/-! ### At the operations. -/
theorem map_new {ops : Array Oper} {rest : List Oper} {o : Oper} {a : Act} {w u : World} {l : List (Nat × TypeId × List Int)} {Q : Exit → Act → World → Prop} (hk : KeepR w l u) (hgd : o.guard = none) (ho : o.op = .makeMap 35 none)
    (h : ∀ b u', w.heap.size ≤ b → KeepR w l u' → MapAt u' b 0 [] → wpList Try.prog ops Q rest (a.put o.dst (.map (some b))) u') : wpList Try.prog ops Q (o :: rest) a u :=
  wpList_plain hgd fun K hK => by
    have hb : Below u.heap.size u (u.alloc (.map #[] 0)) := (Below.refl _ _).alloc (Nat.le_refl _) _
    have := hK _ _ (h _ _ hk.bel.size (hk.call hb) (MapAt.made u))
    unfold Oper.wp
    simp [execOp, ho, run_makeMap, Result.andThen]
    exact this
theorem key_run (p q : Int) (W : World) : (Instr.build 34 #[(0, .int .i64 p), (1, .int .i64 q)]).run Try.prog W = .ok (.agg #[.int .i64 p, .int .i64 q]) W := by kernel_rfl
theorem build_key {ops : Array Oper} {rest : List Oper} {o : Oper} {a : Act} {u : World} {Q : Exit → Act → World → Prop} (hgd : o.guard = none) (x y : Operand) (ho : o.op = .build 34 #[(0, x), (1, y)]) {p q : Int}
    (hx : a.eval x = .int .i64 p) (hy : a.eval y = .int .i64 q)
    (h : wpList Try.prog ops Q rest (a.put o.dst (.agg #[.int .i64 p, .int .i64 q])) u) : wpList Try.prog ops Q (o :: rest) a u :=
  wpList_plain hgd fun K hK => by
    unfold Oper.wp execOp
    simp only [ho, List.map_toArray, List.map_cons, List.map_nil, hx, hy, Sem.run_bind, Sem.run_pure, Result.andThen_ok, key_run]
    exact hK _ _ h
theorem wp_map_put {o : Oper} {a : Act} {w u : World} {l : List (Nat × TypeId × List Int)} {K : Act → World → Prop} {Q : Exit → Act → World → Prop} (hk : KeepR w l u) {b n : Nat} {seen : List Lk} (hm : MapAt u b n seen) (hw : w.heap.size ≤ b) (hn : n < 1000) {X : Lk} (hs : ok64 X.s) (hv : ok64 X.v) (hone : ∀ y ∈ seen, y.s = X.s → y.v = X.v → y = X)
    (m x v : Operand) (ho : o.op = .mapUpdate 35 m x v ∨ o.op = .insert 35 m x v) (hd : o.dst = none) (em : a.eval m = .map (some b)) (ex : a.eval x = .agg #[.int .i64 X.s, .int .i64 X.v]) (ev : a.eval v = .agg (vals X.l).toArray)
    (h : ∀ u', KeepR w l u' → MapAt u' b (n + 1) (X :: seen) → K a u') : o.wp Try.prog a u K Q := by
  obtain ⟨u', hr, hm', ht⟩ := hm.put hn X hs hv hone
  have := h u' (hk.turned hw ht) hm'
  have e : a.put o.dst undef = a := by rw [hd]; rfl
  rw [← e] at this
  rcases ho with ho | ho
  · unfold Oper.wp
    simp [execOp, ho, em, ex, ev, hr, Result.andThen]
    exact this
  · unfold Oper.wp
    simp [execOp, ho, em, ex, ev, hr, Result.andThen]
    exact this
theorem map_put {ops : Array Oper} {rest : List Oper} {o : Oper} {a : Act} {w u : World} {l : List (Nat × TypeId × List Int)} {Q : Exit → Act → World → Prop} (hk : KeepR w l u) {b n : Nat} {seen : List Lk} (hm : MapAt u b n seen) (hw : w.heap.size ≤ b) (hn : n < 1000) {X : Lk} (hs : ok64 X.s) (hv : ok64 X.v) (hone : ∀ y ∈ seen, y.s = X.s → y.v = X.v → y = X)
    (hgd : o.guard = none) (m x v : Operand) (ho : o.op = .mapUpdate 35 m x v) (hd : o.dst = none) (em : a.eval m = .map (some b)) (ex : a.eval x = .agg #[.int .i64 X.s, .int .i64 X.v]) (ev : a.eval v = .agg (vals X.l).toArray)
    (h : ∀ u', KeepR w l u' → MapAt u' b (n + 1) (X :: seen) → wpList Try.prog ops Q rest a u') : wpList Try.prog ops Q (o :: rest) a u :=
  wpList_plain hgd fun _ hK => wp_map_put hk hm hw hn hs hv hone m x v (.inl ho) hd em ex ev fun u' h1 h2 => hK _ _ (h u' h1 h2)
theorem map_first {ops : Array Oper} {rest : List Oper} {o : Oper} {a : Act} {w u : World} {l : List (Nat × TypeId × List Int)} {Q : Exit → Act → World → Prop} (hk : KeepR w l u) {b : Nat} (hm : MapAt u b 0 []) (hw : w.heap.size ≤ b) {X : Lk} (es : X.s = 0) (ev' : X.v = 0)
    (hgd : o.guard = none) (m x v : Operand) (ho : o.op = .insert 35 m x v) (hd : o.dst = none) (em : a.eval m = .map (some b)) (ex : a.eval x = .agg #[.int .i64 0, .int .i64 0]) (ev : a.eval v = .agg (vals X.l).toArray)
    (h : ∀ u', KeepR w l u' → MapAt u' b 1 [X] → wpList Try.prog ops Q rest a u') : wpList Try.prog ops Q (o :: rest) a u :=
  wpList_plain hgd fun _ hK => wp_map_put hk hm hw (by omega) (X := X) (by rw [es]; exact ok64_of isB_zero) (by rw [ev']; exact ok64_of isB_zero) (fun y hy => absurd hy (by simp)) m x v (.inr ho) hd em (by rw [es, ev']; exact ex) ev fun u' h1 h2 => hK _ _ (h u' h1 h2)
theorem map_hit {ops : Array Oper} {rest : List Oper} {o : Oper} {a : Act} {u : World} {Q : Exit → Act → World → Prop} {b n : Nat} {seen : List Lk} (hm : MapAt u b n seen) {X : Lk} (hX : X ∈ seen) (hgd : o.guard = none) (m x : Operand) (ho : o.op = .lookup 35 m x true)
    (em : a.eval m = .map (some b)) (ex : a.eval x = .agg #[.int .i64 X.s, .int .i64 X.v]) (h : wpList Try.prog ops Q rest (a.put o.dst (.tuple #[.agg (vals X.l).toArray, .bool true])) u) : wpList Try.prog ops Q (o :: rest) a u :=
  wpList_plain hgd fun K hK => by
    unfold Oper.wp
    simp [execOp, ho, em, ex, hm.hit hX, Result.andThen]
    exact hK _ _ h
theorem map_miss {ops : Array Oper} {rest : List Oper} {o : Oper} {a : Act} {u : World} {Q : Exit → Act → World → Prop} {b n : Nat} {seen : List Lk} (hm : MapAt u b n seen) {X : Lk} (hs : ok64 X.s) (hv : ok64 X.v) (hX : ∀ y ∈ seen, y.s = X.s → y.v = X.v → False) (hgd : o.guard = none) (m x : Operand) (ho : o.op = .lookup 35 m x true)
    (em : a.eval m = .map (some b)) (ex : a.eval x = .agg #[.int .i64 X.s, .int .i64 X.v]) (h : wpList Try.prog ops Q rest (a.put o.dst (.tuple #[.agg (vals z4.l).toArray, .bool false])) u) : wpList Try.prog ops Q (o :: rest) a u :=
  wpList_plain hgd fun K hK => by
    unfold Oper.wp
    simp [execOp, ho, em, ex, hm.miss hs hv hX, Result.andThen]
    exact hK _ _ h
theorem wp_store_else {o : Oper} {a : Act} {w u : World} {l : List (Nat × TypeId × List Int)} {K : Act → World → Prop} {Q : Exit → Act → World → Prop} (hk : KeepR w l u) (i : Nat) (n : Nat) {ty : TypeId} (hs : (Try.prog.info? ty).map (·.size) = some n)
    (hd : o.dst = none) (x y : Operand) (ho : o.op = .store ty x y) {b off : Nat} {t : TypeId} {R zs : List Int} (hi : l[i]? = some (b, t, R)) (hx : a.eval x = .pointer (some ⟨b, off, none⟩)) (hy : a.eval y = .agg (vals zs).toArray) (hz : zs.length = n) (hr : off + n ≤ R.length)
    (h : ∀ u', KeepR w (l.set i (b, t, splice R off zs)) u' → (∀ k, k ≠ b → u'.heap[k]? = u.heap[k]?) → K a u') : o.wp Try.prog a u K Q :=
  wp_store_mid ty x y ho b off _ hx hy (by simp only [List.size_toArray, vals_length, hz]; exact (hk.get i hi).thereAt hr) (by simp only [List.size_toArray, vals_length, hz]; exact hs) (vals_all zs)
    (by rw [hd]; simpa [Act.put] using h _ (hk.setCells i hi off zs) (setCells_else b (vals zs) off u))
theorem part_row {P : Program} {e : TypeId} {d : TypeDesc} {m : Nat} (he : P.underlying e = some d) (hd : d.isRow = true) (hsz : ∀ w, (sizeOf e).run P w = .ok m w) (xs : List Int) (o : Nat) (w : World) :
    (part e (vals xs).toArray o).run P w = .ok (.agg (vals (seg xs o m)).toArray) w := by
  have ha : (isAgg e).run P w = .ok true w := by
    unfold isAgg
    rw [Sem.run_bind, run_underlying he w]
    cases d <;> simp_all
  simp [part, ha, hsz, vals_seg]
theorem lk_size : ∀ w, (sizeOf 23).run Try.prog w = .ok 4 w := fun w => by kernel_rfl
theorem index_st {S : List Int} (hS : S.length = 64) {k : Nat} (hk : k < 16) (w : World) : (Instr.index 33 (.agg (vals S).toArray) (.int .i64 (k : Int))).run Try.prog w = .ok (.agg (vals (st S k).l).toArray) w := by
  have hp := part_row (P := Try.prog) Try.underlying23 rfl lk_size S (k * 4) w
  rw [seg_st (by omega)] at hp
  simp [Instr.index, asIntOf, run_underlying Try.underlying33, hk, hp]
theorem LI.ends {seen : List Lk} {last : Lk} {f : Nat → Lk} (h : LI seen last f) {A : Lk} (hA : A ∈ seen) (hj : ∀ j, j < 16 → ¬ ltL A (f j)) : A = last := by
  obtain ⟨k, hk, e⟩ := h.known
  rcases ltL_or A last with h' | h' | h'
  · exact absurd (by rw [e]; exact h') (hj k hk)
  · exact h'
  · exact absurd h' (h.le A hA)
theorem join_more {seen : List Lk} {f : Nat → Lk} {A : Lk} {m : Nat} (hA : A ∈ seen) (hf : f m ∈ seen) (hj : ∀ j, j < m → ¬ ltL A (f j)) : joinK A (f m) ∈ seen ∧ ∀ j, j < m + 1 → ¬ ltL (joinK A (f m)) (f j) := by
  refine ⟨?_, fun j hjm h => ?_⟩
  · rcases joinK_or A (f m) with e | e
    · rw [e]; exact hA
    · rw [e]; exact hf
  · by_cases hjm' : j = m
    · subst hjm'; exact (joinK_max A (f j)).2 h
    · have hj' := hj j (by omega)
      rcases ltL_or A (f m) with h' | h' | h'
      · rw [joinK_lt h'] at h; exact hj' (ltL_trans h' h)
      · rw [← h', joinK_self] at h; exact hj' h
      · rw [joinK_not (fun h'' => ltL_irrefl _ (ltL_trans h' h''))] at h; exact hj' h
theorem MapAt.ok {u : World} {b n : Nat} {seen : List Lk} (h : MapAt u b n seen) {X : Lk} (hX : X ∈ seen) : ok64 X.s ∧ ok64 X.v := by
  obtain ⟨_, _, _, h3, _⟩ := h
  exact ⟨(h3 X hX).1, (h3 X hX).2.1⟩
end Go.Proofs.Ytbaacdkjdkkifaa
