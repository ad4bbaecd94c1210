/- Plans in memory; whether one is about a field; whether one may be.; Maps from numbers to functions that a call has made: which are in them, and what the operations on them do.; A map from a hold's name to its place, that the call itself has made; a contract of hold.placesByName.; A contract of hold.Join.; What holds of fields that replicas know, as far as it is asked what is loose: numbers that are not too great. No walk. -/
import Derived.Test.YtgblnlpfgdbnnaaGreatZ20
namespace Go.Proofs.YtgblnlpfgdbnnaaGreat
set_option maxRecDepth 100000
open Go.ChangeShapes Go.WideShapes Go.ChangeAt Go.RowKit

/-- A plan. -/
structure Pl where
  k : Int
  nm : ByteArray
  ot : ByteArray
  a : Int
  b : Int
def Pl.cells (p : Pl) : List Value := [.int .i64 p.k, .string p.nm, .string p.ot, .int .i64 p.a, .int .i64 p.b]
theorem p_info {p : Pl} : (Tryz.prog.info? 24).map (·.size) = some p.cells.length := by
  rw [show p.cells.length = 5 from rfl]; kernel_rfl
theorem Pl.c0 {p : Pl} : p.cells[0]? = some (.int .i64 p.k) := rfl
theorem Pl.c1 {p : Pl} : p.cells[1]? = some (.string p.nm) := rfl
theorem Pl.c2 {p : Pl} : p.cells[2]? = some (.string p.ot) := rfl
theorem Pl.c3 {p : Pl} : p.cells[3]? = some (.int .i64 p.a) := rfl
theorem Pl.c4 {p : Pl} : p.cells[4]? = some (.int .i64 p.b) := rfl
theorem Pl.all {p : Pl} : ∀ j v, p.cells[j]? = some v → p.cells[0 + j]? = some v := fun j v h => by rw [Nat.zero_add]; exact h
theorem ckI : cellK 3 = true := by decide
theorem ckS : cellK 9 = true := by decide
theorem ckH : cellK 41 = true := by decide
theorem ckR : cellK 46 = true := by decide
theorem ckM : cellK 136 = true := by decide
theorem ckN : cellK 103 = true := by decide
/-- The empty name. -/
def noS (s : ByteArray) : Bool := eqS s ⟨#[]⟩
theorem noS_iff {s : ByteArray} : noS s = true ↔ s = ⟨#[]⟩ := eqS_iff
theorem no_list {s : ByteArray} {r : Bool} (h : noS s = r) : (s.toList == (ByteArray.mk #[]).toList) = r ∧ (s.toList == ([] : List UInt8)) = r := ⟨h, by rw [← h, noS, eqS, Lib.toList_data ⟨#[]⟩]⟩
/-- Is a plan about a field? -/
def touchB (p : Pl) (s : ByteArray) : Bool := eqS s p.nm || (!(noS p.ot) && eqS s p.ot)
theorem touched_any (p : Pl) (s : ByteArray) (w : World) :
    Calls Tryz.prog 13 #[.agg p.cells.toArray, .string s] w fun e w' => e = .returned (.bool (touchB p s)) ∧ Below w.heap.size w w' := by
  have HK := Lib.hid (Kg.start w)
  cases h1 : (s.toList == p.nm.toList) with
  | true =>
    have HT := Lib.hid (show touchB p s = true by simp [touchB, eqS, h1])
    go_enter Tryz.func13, Tryz.ntmps13
    go_wp2_with (first
      | ((with_reducible refine box_k (cs := p.cells) HK.out rfl _ rfl rfl ?_); intro bp u hk; clear HK; have HK := Lib.hid hk; clear hk)
      | (with_reducible refine load_k1 HK.out 0 ckS _ rfl rfl rfl rfl Pl.c1 ?_)
      | (with_reducible refine load_k1 HK.out 0 ckS _ rfl rfl rfl rfl Pl.c2 ?_))
    go_ret
    exact ⟨by rw [HT.out]; rfl, HK.out.mf.bel⟩
  | false =>
    cases h2 : noS p.ot with
    | true =>
      have HT := Lib.hid (show touchB p s = false by simp [touchB, eqS, h1, h2])
      obtain ⟨h3, h4⟩ := no_list h2
      clear h2
      go_enter Tryz.func13, Tryz.ntmps13
      go_wp2_with (first
        | ((with_reducible refine box_k (cs := p.cells) HK.out rfl _ rfl rfl ?_); intro bp u hk; clear HK; have HK := Lib.hid hk; clear hk)
        | (with_reducible refine load_k1 HK.out 0 ckS _ rfl rfl rfl rfl Pl.c1 ?_)
        | (with_reducible refine load_k1 HK.out 0 ckS _ rfl rfl rfl rfl Pl.c2 ?_))
      go_ret
      exact ⟨by rw [HT.out]; rfl, HK.out.mf.bel⟩
    | false =>
      obtain ⟨h3, h4⟩ := no_list h2
      cases h5 : (s.toList == p.ot.toList) with
      | true =>
        have HT := Lib.hid (show touchB p s = true by simp [touchB, eqS, h1, h2, h5])
        clear h2
        go_enter Tryz.func13, Tryz.ntmps13
        go_wp2_with (first
          | ((with_reducible refine box_k (cs := p.cells) HK.out rfl _ rfl rfl ?_); intro bp u hk; clear HK; have HK := Lib.hid hk; clear hk)
          | (with_reducible refine load_k1 HK.out 0 ckS _ rfl rfl rfl rfl Pl.c1 ?_)
          | (with_reducible refine load_k1 HK.out 0 ckS _ rfl rfl rfl rfl Pl.c2 ?_))
        go_ret
        exact ⟨by rw [HT.out]; rfl, HK.out.mf.bel⟩
      | false =>
        have HT := Lib.hid (show touchB p s = false by simp [touchB, eqS, h1, h2, h5])
        clear h2
        go_enter Tryz.func13, Tryz.ntmps13
        go_wp2_with (first
          | ((with_reducible refine box_k (cs := p.cells) HK.out rfl _ rfl rfl ?_); intro bp u hk; clear HK; have HK := Lib.hid hk; clear hk)
          | (with_reducible refine load_k1 HK.out 0 ckS _ rfl rfl rfl rfl Pl.c1 ?_)
          | (with_reducible refine load_k1 HK.out 0 ckS _ rfl rfl rfl rfl Pl.c2 ?_))
        go_ret
        exact ⟨by rw [HT.out]; rfl, HK.out.mf.bel⟩

/-! ### Functions by their number. -/
def fnR (v : Value) : Option (DataW Value × List MemPlace) := some (.held v, [])
theorem fnR_inv {v x : Value} {ps : List MemPlace} (h : fnR v = some (.held x, ps)) : v = x := by
  unfold fnR at h
  injection h with h; injection h with h _; injection h
abbrev ok64W (n : Int) : Prop := (Lit.int .i64 n).wf = true
theorem fm_keyed : Maps.Keyed Tryz.prog 3 := Maps.int_keyed Tryz.underlying3
theorem fm_key {n : Int} (h : ok64W n) : keyOf Tryz.prog 3 (.int .i64 n) = some (.int .i64 n) := Maps.keyOf_int_mk Tryz.underlying3 h
theorem fm_lit (n : Int) : WideAt.IsKeyLit (.int .i64 n) := trivial
/-- Block b is the map of these functions by their number; at most n were laid in. -/
def FM (u : World) (b n : Nat) (g : Int → Option Value) : Prop :=
  ∃ D : DataW Value, u.ownsMap Tryz.prog 3 fnR b n D ∧ Maps.IsMap D ∧
    (∀ k v, ok64W k → g k = some v → Maps.has D (.int .i64 k) = true ∧ ∀ z, D.atKey (.int .i64 k) z = .held v) ∧
    ∀ k, ok64W k → g k = none → Maps.has D (.int .i64 k) = false
variable {u u' : World} {b n : Nat} {g : Int → Option Value}
theorem FM.is (h : FM u b n g) : ∃ es c, u.heap[b]? = some (.map es c) := by
  obtain ⟨D, ⟨es, c, hb, _⟩, _⟩ := h
  exact ⟨es, c, hb⟩
theorem FM.turn (h : FM u b n g) (hb : u'.heap[b]? = u.heap[b]?) : FM u' b n g := by
  obtain ⟨D, ⟨es, c, h1, h2, h3, h4⟩, h5⟩ := h
  exact ⟨D, ⟨es, c, hb.trans h1, h2, h3, h4⟩, h5⟩
theorem FM.lt (h : FM u b n g) : b < u.heap.size := by
  obtain ⟨es, c, hb⟩ := h.is
  exact (Array.getElem?_eq_some_iff.1 hb).1
theorem FM.below (h : FM u b n g) (hb : Below u.heap.size u u') : FM u' b n g := h.turn (hb.block b h.lt)
theorem FM.made (u : World) : FM (u.alloc (.map #[] 0)) u.heap.size 0 (fun _ => none) :=
  ⟨.map [], World.ownsMap_made u Tryz.prog 3 fnR, Maps.isMap_empty, fun _ _ _ h => by simp at h, fun _ _ _ => rfl⟩
theorem fm_zeroR (w : World) : (zeroValue 46).run Tryz.prog w = .ok .nilFunc w := by kernel_rfl
theorem FM.putR (h : FM u b n g) (hn : n < 1000) {k : Int} (hk : ok64W k) (v : Value) :
    ∃ u', (Instr.mapUpdate 70 (.map (some b)) (.int .i64 k) v).run Tryz.prog u = .ok () u' ∧ FM u' b (n + 1) (fun j => if j = k then some v else g j) ∧ u.mapTurned u' b := by
  obtain ⟨D, h1, h2, h3, h4⟩ := h
  obtain ⟨u', hr, hu, ht⟩ := h1.store fm_keyed Tryz.underlying70 (by unfold maxLen; omega) (fm_key hk) (show fnR v = some (.held v, []) from rfl)
  refine ⟨u', hr, ⟨_, hu, h2.put _ _, fun j x hj hx => ?_, fun j hj hx => ?_⟩, ht⟩
  · by_cases e : j = k
    · subst e
      have hx : (if j = j then some v else g j) = some x := hx
      rw [if_pos rfl] at hx
      injection hx with hx
      subst hx
      exact ⟨Maps.has_put_same h2 (fm_lit _) _, fun z => Maps.atKey_put_same h2 (fm_lit _) _ z⟩
    · have hx : (if j = k then some v else g j) = some x := hx
      rw [if_neg e] at hx
      have hne : (Lit.int .i64 j) ≠ .int .i64 k := fun h => by injection h with _ h; exact e h
      obtain ⟨a1, a2⟩ := h3 j x hj hx
      exact ⟨by rw [Maps.has_put_other hne]; exact a1, fun z => by rw [Maps.atKey_put_other hne]; exact a2 z⟩
  · by_cases e : j = k
    · have hx : (if j = k then some v else g j) = none := hx
      rw [if_pos e] at hx; cases hx
    · have hx : (if j = k then some v else g j) = none := hx
      rw [if_neg e] at hx
      have hne : (Lit.int .i64 j) ≠ .int .i64 k := fun h => by injection h with _ h; exact e h
      rw [Maps.has_put_other hne]
      exact h4 j hj hx
theorem FM.hitR (h : FM u b n g) {k : Int} (hk : ok64W k) {v : Value} (hv : g k = some v) :
    (Instr.lookup 70 (.map (some b)) (.int .i64 k) true).run Tryz.prog u = .ok (.tuple #[v, .bool true]) u := by
  obtain ⟨D, h1, h2, h3, h4⟩ := h
  obtain ⟨a3, a4⟩ := h3 k v hk hv
  obtain ⟨x, ps, hr, hx⟩ := h1.look_ok fm_keyed Tryz.underlying70 (fm_zeroR u) (show fnR .nilFunc = some (.held .nilFunc, []) from rfl) (fm_key hk)
  rw [a4] at hx
  rw [hr, a3, fnR_inv hx]
theorem FM.missR (h : FM u b n g) {k : Int} (hk : ok64W k) (hv : g k = none) :
    (Instr.lookup 70 (.map (some b)) (.int .i64 k) true).run Tryz.prog u = .ok (.tuple #[.nilFunc, .bool false]) u := by
  obtain ⟨D, h1, h2, h3, h4⟩ := h
  have a3 := h4 k hk hv
  obtain ⟨x, ps, hr, hx⟩ := h1.look_ok fm_keyed Tryz.underlying70 (fm_zeroR u) (show fnR .nilFunc = some (.held .nilFunc, []) from rfl) (fm_key hk)
  rw [Maps.atKey_of_not_has a3] at hx
  rw [hr, a3, fnR_inv hx]
theorem fm_zeroM (w : World) : (zeroValue 107).run Tryz.prog w = .ok .nilFunc w := by kernel_rfl
theorem FM.putM (h : FM u b n g) (hn : n < 1000) {k : Int} (hk : ok64W k) (v : Value) :
    ∃ u', (Instr.mapUpdate 108 (.map (some b)) (.int .i64 k) v).run Tryz.prog u = .ok () u' ∧ FM u' b (n + 1) (fun j => if j = k then some v else g j) ∧ u.mapTurned u' b := by
  obtain ⟨D, h1, h2, h3, h4⟩ := h
  obtain ⟨u', hr, hu, ht⟩ := h1.store fm_keyed Tryz.underlying108 (by unfold maxLen; omega) (fm_key hk) (show fnR v = some (.held v, []) from rfl)
  refine ⟨u', hr, ⟨_, hu, h2.put _ _, fun j x hj hx => ?_, fun j hj hx => ?_⟩, ht⟩
  · by_cases e : j = k
    · subst e
      have hx : (if j = j then some v else g j) = some x := hx
      rw [if_pos rfl] at hx
      injection hx with hx
      subst hx
      exact ⟨Maps.has_put_same h2 (fm_lit _) _, fun z => Maps.atKey_put_same h2 (fm_lit _) _ z⟩
    · have hx : (if j = k then some v else g j) = some x := hx
      rw [if_neg e] at hx
      have hne : (Lit.int .i64 j) ≠ .int .i64 k := fun h => by injection h with _ h; exact e h
      obtain ⟨a1, a2⟩ := h3 j x hj hx
      exact ⟨by rw [Maps.has_put_other hne]; exact a1, fun z => by rw [Maps.atKey_put_other hne]; exact a2 z⟩
  · by_cases e : j = k
    · have hx : (if j = k then some v else g j) = none := hx
      rw [if_pos e] at hx; cases hx
    · have hx : (if j = k then some v else g j) = none := hx
      rw [if_neg e] at hx
      have hne : (Lit.int .i64 j) ≠ .int .i64 k := fun h => by injection h with _ h; exact e h
      rw [Maps.has_put_other hne]
      exact h4 j hj hx
theorem FM.atM (h : FM u b n g) {k : Int} (hk : ok64W k) {v : Value} (hv : g k = some v) :
    (Instr.lookup 108 (.map (some b)) (.int .i64 k) false).run Tryz.prog u = .ok v u := by
  obtain ⟨D, h1, h2, h3, h4⟩ := h
  obtain ⟨a3, a4⟩ := h3 k v hk hv
  obtain ⟨x, ps, hr, hx⟩ := h1.lookup fm_keyed Tryz.underlying108 (fm_zeroM u) (show fnR .nilFunc = some (.held .nilFunc, []) from rfl) (fm_key hk)
  rw [a4] at hx
  rw [hr, fnR_inv hx]
/-- Such a map, as a thing. -/
def Th.fm (b n : Nat) (g : Int → Option Value) : Th := ⟨fun k => k = b, fun u => FM u b n g, fun h hb => h.turn (hb b rfl), fun h hk => by subst hk; exact h.lt⟩
section
variable {ops : Array Oper} {rest : List Oper} {o : Oper} {a : Act} {w u u' : World} {F : Nat → Prop} {own ro : List Th} {Q : Exit → Act → World → Prop} {b n : Nat} {g : Int → Option Value}
theorem Kg.fm (h : Kg w F own ro u) (i : Nat) (hi : own[i]? = some (Th.fm b n g)) : FM u b n g := h.get i hi
theorem Kg.mapTurned (h : Kg w F own ro u) (i : Nat) (hi : own[i]? = some (Th.fm b n g)) {m : Nat} {g' : Int → Option Value} (ht : u.mapTurned u' b) (hm : FM u' b m g') : Kg w F (own.set i (Th.fm b m g')) ro u' := by
  have hg := ht.grown
  exact h.move i hi ⟨hg.os, hg.tape, hg.output, hg.size, fun k hk hn => hg.block k hk fun e => hn (by injection e)⟩ hm (fun k hk => .inl hk)
theorem make_fmR (hk : Kg w F own ro u) (hgd : o.guard = none) (ho : o.op = .makeMap 70 none)
    (h : ∀ b u', Kg w F (Th.fm b 0 (fun _ => none) :: own) ro u' → wpList Tryz.prog ops Q rest (a.put o.dst (.map (some b))) u') : wpList Tryz.prog ops Q (o :: rest) a u :=
  wpList_plain hgd fun K hK => by
    have := hK _ _ (h _ _ (hk.add (t := Th.fm u.heap.size 0 (fun _ => none)) (below_new u (.map #[] 0)) (FM.made u) (fun k hk => by subst hk; exact Nat.le_refl _)))
    unfold Oper.wp
    simp [execOp, ho, run_makeMap, Result.andThen]
    exact this
theorem put_fmR (hk : Kg w F own ro u) (i : Nat) (hi : own[i]? = some (Th.fm b n g)) (hn : n < 1000) (hgd : o.guard = none) (hd : o.dst = none) (m y v : Operand) (ho : o.op = .insert 70 m y v) {k : Int} (hkk : ok64W k) {X : Value}
    (em : a.eval m = .map (some b)) (ey : a.eval y = .int .i64 k) (ev : a.eval v = X)
    (h : ∀ u', Kg w F (own.set i (Th.fm b (n + 1) (fun j => if j = k then some X else g j))) ro u' → wpList Tryz.prog ops Q rest a u') : wpList Tryz.prog ops Q (o :: rest) a u :=
  wpList_plain hgd fun K hK => by
    obtain ⟨u', hr, hm', ht⟩ := (hk.fm i hi).putR hn hkk X
    have := hK _ _ (h u' (hk.mapTurned i hi ht hm'))
    have e : a.put o.dst undef = a := by rw [hd]; rfl
    rw [← e] at this
    unfold Oper.wp
    simp [execOp, ho, em, ey, ev, hr, Result.andThen]
    exact this
theorem wp_hitR {K : Act → World → Prop} (hm : FM u b n g) {k : Int} (hkk : ok64W k) {v : Value} (hv : g k = some v) (m x : Operand) (ho : o.op = .lookup 70 m x true) (em : a.eval m = .map (some b)) (ex : a.eval x = .int .i64 k)
    (h : K (a.put o.dst (.tuple #[v, .bool true])) u) : o.wp Tryz.prog a u K Q := by
  have e := hm.hitR hkk hv
  unfold Oper.wp
  simp [execOp, ho, em, ex, e, Result.andThen]
  exact h
theorem wp_missR {K : Act → World → Prop} (hm : FM u b n g) {k : Int} (hkk : ok64W k) (hv : g k = none) (m x : Operand) (ho : o.op = .lookup 70 m x true) (em : a.eval m = .map (some b)) (ex : a.eval x = .int .i64 k)
    (h : K (a.put o.dst (.tuple #[.nilFunc, .bool false])) u) : o.wp Tryz.prog a u K Q := by
  have e := hm.missR hkk hv
  unfold Oper.wp
  simp [execOp, ho, em, ex, e, Result.andThen]
  exact h
theorem make_fmM (hk : Kg w F own ro u) (hgd : o.guard = none) (ho : o.op = .makeMap 108 none)
    (h : ∀ b u', Kg w F (Th.fm b 0 (fun _ => none) :: own) ro u' → wpList Tryz.prog ops Q rest (a.put o.dst (.map (some b))) u') : wpList Tryz.prog ops Q (o :: rest) a u :=
  wpList_plain hgd fun K hK => by
    have := hK _ _ (h _ _ (hk.add (t := Th.fm u.heap.size 0 (fun _ => none)) (below_new u (.map #[] 0)) (FM.made u) (fun k hk => by subst hk; exact Nat.le_refl _)))
    unfold Oper.wp
    simp [execOp, ho, run_makeMap, Result.andThen]
    exact this
theorem put_fmM (hk : Kg w F own ro u) (i : Nat) (hi : own[i]? = some (Th.fm b n g)) (hn : n < 1000) (hgd : o.guard = none) (hd : o.dst = none) (m y v : Operand) (ho : o.op = .insert 108 m y v) {k : Int} (hkk : ok64W k) {X : Value}
    (em : a.eval m = .map (some b)) (ey : a.eval y = .int .i64 k) (ev : a.eval v = X)
    (h : ∀ u', Kg w F (own.set i (Th.fm b (n + 1) (fun j => if j = k then some X else g j))) ro u' → wpList Tryz.prog ops Q rest a u') : wpList Tryz.prog ops Q (o :: rest) a u :=
  wpList_plain hgd fun K hK => by
    obtain ⟨u', hr, hm', ht⟩ := (hk.fm i hi).putM hn hkk X
    have := hK _ _ (h u' (hk.mapTurned i hi ht hm'))
    have e : a.put o.dst undef = a := by rw [hd]; rfl
    rw [← e] at this
    unfold Oper.wp
    simp [execOp, ho, em, ey, ev, hr, Result.andThen]
    exact this
theorem wp_atM {K : Act → World → Prop} (hm : FM u b n g) {k : Int} (hkk : ok64W k) {v : Value} (hv : g k = some v) (m x : Operand) (ho : o.op = .lookup 108 m x false) (em : a.eval m = .map (some b)) (ex : a.eval x = .int .i64 k)
    (h : K (a.put o.dst v) u) : o.wp Tryz.prog a u K Q := by
  have e := hm.atM hkk hv
  unfold Oper.wp
  simp [execOp, ho, em, ex, e, Result.andThen]
  exact h
/-- A function is stored in a variable of its own. -/
theorem store_kf (hk : Kg w F own ro u) (i : Nat) {ty : TypeId} (ht : ty = 46 ∨ ty = 136) (hgd : o.guard = none) (hd : o.dst = none) (x y : Operand) (ho : o.op = .store ty x y) {q : Nat} {t : TypeId} {v : Value} {f : Nat} {cap : Array Value} (hi : own[i]? = some (Th.cel q t [v]))
    (hx : a.eval x = .pointer (some ⟨q, 0, none⟩)) (hy : a.eval y = .func (.func f) #[] cap)
    (h : ∀ u', Kg w F (own.set i (Th.cel q t [.func (.func f) #[] cap])) ro u' → wpList Tryz.prog ops Q rest a u') : wpList Tryz.prog ops Q (o :: rest) a u :=
  wpList_plain hgd fun K hK => by
    have hC := hk.celAt i hi
    have hc := hC.cell (k := 0) rfl
    have hf := hC.frozen 0
    have e : (Instr.storeAt ty (.pointer (some ⟨q, 0, none⟩)) (.func (.func f) #[] cap)).run Tryz.prog u = .ok () (u.setCell ⟨q, 0, none⟩ (.func (.func f) #[] cap)) := by
      have e2 : ∀ m, (store ⟨q, 0, none⟩ (.func (.func f) #[] cap) m).run Tryz.prog u = stored Tryz.prog u ⟨q, 0, none⟩ (.func (.func f) #[] cap) m := fun m => run_store Tryz.prog u _ _ m rfl
      rcases ht with rfl | rfl <;> simp [go_sem, hc, hf, e2, stored]
    unfold Oper.wp execOp
    simp only [ho, hx, hy, Sem.run_bind, Sem.run_pure, Result.andThen_ok, e]
    have := hK _ _ (h _ (hk.setCell i hi 0 (.func (.func f) #[] cap) rfl))
    simpa [hd, Act.put, Oper.upon] using this
end
theorem FM.as {u : World} {b n : Nat} {g g' : Int → Option Value} (h : FM u b n g) (e : ∀ k, g k = g' k) : FM u b n g' := by rw [← funext e]; exact h

end Go.Proofs.YtgblnlpfgdbnnaaGreat

namespace Go.Proofs.YtgblnlpfgdbnnaaGreat
set_option maxRecDepth 100000
open Go.ChangeShapes Go.WideShapes Go.ChangeAt Go.RowKit

def plR (v : Value) : Option (DataW Unit × List MemPlace) := match v with
  | .int .i64 n => some (.lit (.int .i64 n), [])
  | _ => none
theorem mp_laid : laidOutB Tryz.prog = true := by kernel_rfl
theorem mp_keyed : Maps.Keyed Tryz.prog 125 :=
  Maps.Keyed.of_law (deep_law_laid mp_laid (m := 3) (by omega) (of_decide_eq_true (by kernel_rfl)) (by kernel_rfl) (by kernel_rfl))
/-- The key's literal. -/
def kl (s v : Int) : Lit := .string (keyBytes [.int .i64 s, .int .i64 v])
def ok64 (n : Int) : Prop := (Lit.int .i64 n).wf = true
theorem ok64_of {n : Int} (h1 : 0 ≤ n) (h2 : n ≤ 1099511627776) : ok64 n := WalkArith.wf_i64 (by omega)
theorem key_under : Tryz.prog.underlying 125 = some (.struct (Tryz.prog.fieldsOf 125)) := by kernel_rfl
theorem key_fields : (Tryz.prog.fieldsOf 125).toList.map (fun f => (f.type, f.offset)) = [(3, 0), (3, 1)] := by kernel_rfl
theorem fields2 {fs : List Field} {x y : TypeId × Nat} (h : fs.map (fun f => (f.type, f.offset)) = [x, y]) : ∃ f g, fs = [f, g] ∧ (f.type, f.offset) = x ∧ (g.type, g.offset) = y := by
  match fs, h with
  | [f, g], h => exact ⟨f, g, rfl, by simpa using h⟩
theorem keyOf_mk {s v : Int} (hs : ok64 s) (hv : ok64 v) : keyOf Tryz.prog 125 (.agg #[.int .i64 s, .int .i64 v]) = some (kl s v) := by
  have h1 : Tryz.prog.keyType 125 = true := by kernel_rfl
  have h2 : (Value.agg #[.int .i64 s, .int .i64 v]).formed Tryz.prog 125 = true := by kernel_rfl
  have h3 : Tryz.prog.keyLits (Tryz.prog.types.size + 1) 125 [.int .i64 s, .int .i64 v] = some [.int .i64 s, .int .i64 v] := by
    have c1 : Tryz.prog.cellsOf 3 = 1 := by kernel_rfl
    have c2 : Tryz.prog.cellsOf 125 = 2 := by kernel_rfl
    obtain ⟨d, hd⟩ : ∃ d, Tryz.prog.types.size + 1 = d + 2 := ⟨Tryz.prog.types.size - 1, by have : 1 ≤ Tryz.prog.types.size := of_decide_eq_true (by kernel_rfl); omega⟩
    rw [hd]
    unfold ok64 at hs hv
    obtain ⟨f1, f2, hf, e1, e2⟩ := fields2 key_fields
    injection e1 with e1a e1b
    injection e2 with e2a e2b
    have hf' : Tryz.prog.fieldsOf 125 = #[f1, f2] := by apply Array.toList_inj.1; rw [hf]
    simp [Program.keyLits, Tryz.underlying3, c1, c2, hs, hv]
  unfold keyOf
  rw [key_under]
  show (if (Tryz.prog.keyType 125 && (Value.agg #[.int .i64 s, .int .i64 v]).formed Tryz.prog 125) = true then (Tryz.prog.keyLits (Tryz.prog.types.size + 1) 125 [.int .i64 s, .int .i64 v]).map (fun ls => Lit.string (keyBytes ls)) else none) = _
  rw [h1, h2, h3]
  rfl
theorem kl_inj {s v s' v' : Int} (h1 : ok64 s) (h2 : ok64 v) (h3 : ok64 s') (h4 : ok64 v') (h : kl s v = kl s' v') : s = s' ∧ v = v' := by
  have e1 := keyOf_mk h1 h2
  have e2 := keyOf_mk h3 h4
  rw [← h] at e2
  have := mp_keyed.inj e1 e2
  injection this with this
  have := congrArg Array.toList this
  simp only [List.cons.injEq, Value.int.injEq, true_and, and_true] at this
  exact this
theorem kl_key (s v : Int) : WideAt.IsKeyLit (kl s v) := trivial
/-- Block b is the map of the first m of these holds' names to their places. -/
def PlAt (u : World) (b : Nat) (hs : List Ho) (m : Nat) : Prop :=
  ∃ D : DataW Unit, u.ownsMap Tryz.prog 125 plR b m D ∧ Maps.IsMap D ∧ (∀ j, j < m → Maps.has D (kl (hs.getD j z5).r (hs.getD j z5).n) = true ∧ ∀ z, D.atKey (kl (hs.getD j z5).r (hs.getD j z5).n) z = .lit (.int .i64 (j : Int))) ∧
    ∀ s v, ok64 s → ok64 v → (∀ j, j < m → ¬ ((hs.getD j z5).r = s ∧ (hs.getD j z5).n = v)) → Maps.has D (kl s v) = false
theorem PlAt.is {u : World} {b m : Nat} {hs : List Ho} (h : PlAt u b hs m) : ∃ es c, u.heap[b]? = some (.map es c) := by
  obtain ⟨D, ⟨es, c, hb, _⟩, _⟩ := h
  exact ⟨es, c, hb⟩
theorem PlAt.turn {u u' : World} {b m : Nat} {hs : List Ho} (h : PlAt u b hs m) (hb : u'.heap[b]? = u.heap[b]?) : PlAt u' b hs m := by
  obtain ⟨D, ⟨es, c, h1, h2, h3, h4⟩, h5⟩ := h
  exact ⟨D, ⟨es, c, hb.trans h1, h2, h3, h4⟩, h5⟩
theorem PlAt.lt {u : World} {b m : Nat} {hs : List Ho} (h : PlAt u b hs m) : b < u.heap.size := by
  obtain ⟨es, c, hb⟩ := h.is
  exact (Array.getElem?_eq_some_iff.1 hb).1
theorem PlAt.below {u u' : World} {b m : Nat} {hs : List Ho} (h : PlAt u b hs m) (hb : Below u.heap.size u u') : PlAt u' b hs m := h.turn (hb.block b h.lt)
theorem PlAt.ne {u : World} {b m : Nat} {hs : List Ho} (h : PlAt u b hs m) {g : Nat} {cs : Array Value} {t : TypeId} {fr : Nat × Nat} (hg : u.heap[g]? = some (.cells cs t fr)) : b ≠ g := by
  rintro rfl
  obtain ⟨es, c, hb⟩ := h.is
  rw [hb] at hg
  cases hg
theorem PlAt.store {u u' : World} {b m : Nat} {hs : List Ho} (h : PlAt u b hs m) {g : Nat} {t : TypeId} {R : List Int} (hg : Blk u g t R) (he : ∀ k, k ≠ g → u'.heap[k]? = u.heap[k]?) : PlAt u' b hs m := h.turn (he b (h.ne hg))
theorem PlAt.made (u : World) (hs : List Ho) : PlAt (u.alloc (.map #[] 0)) u.heap.size hs 0 :=
  ⟨.map [], World.ownsMap_made u Tryz.prog 125 plR, Maps.isMap_empty, fun j hj => absurd hj (by omega), fun _ _ _ _ _ => rfl⟩
theorem PlAt.put {u : World} {b m : Nat} {hs : List Ho} (h : PlAt u b hs m) (hm : m < hs.length) (hn : m < 1000) (hr : ∀ x ∈ hs, rightH x = true) (hp : hs.Pairwise AH) :
    ∃ u', (Instr.mapUpdate 122 (.map (some b)) (.agg #[.int .i64 (hs.getD m z5).r, .int .i64 (hs.getD m z5).n]) (.int .i64 (m : Int))).run Tryz.prog u = .ok () u' ∧ PlAt u' b hs (m + 1) ∧ u.mapTurned u' b := by
  obtain ⟨D, h1, h2, h3, h4⟩ := h
  have hok : ∀ j, j < hs.length → ok64 (hs.getD j z5).r ∧ ok64 (hs.getD j z5).n := fun j hj => by
    have := rightH_iff.1 (hr _ (getD_mem hj))
    exact ⟨ok64_of (by omega) (by omega), ok64_of (by omega) (by omega)⟩
  obtain ⟨u', hru, hu, ht⟩ := h1.store mp_keyed Tryz.underlying122 (by unfold maxLen; omega) (keyOf_mk (hok m hm).1 (hok m hm).2) (show plR (.int .i64 (m : Int)) = some (.lit (.int .i64 (m : Int)), []) from rfl)
  refine ⟨u', hru, ⟨_, hu, h2.put _ _, fun j hj => ?_, fun s v hs' hv' hno => ?_⟩, ht⟩
  · rcases Nat.lt_or_ge j m with hjm | hjm
    · have hah : AH (hs.getD j z5) (hs.getD m z5) := by
        rw [getD_get (by omega), getD_get hm]
        exact List.pairwise_iff_getElem.1 hp j m _ _ hjm
      have hne : kl (hs.getD j z5).r (hs.getD j z5).n ≠ kl (hs.getD m z5).r (hs.getD m z5).n := fun e => hah.apart (kl_inj (hok j (by omega)).1 (hok j (by omega)).2 (hok m hm).1 (hok m hm).2 e)
      exact ⟨by rw [Maps.has_put_other hne]; exact (h3 j hjm).1, fun z => by rw [Maps.atKey_put_other hne]; exact (h3 j hjm).2 z⟩
    · have e : j = m := by omega
      subst e
      exact ⟨Maps.has_put_same h2 (kl_key _ _) _, fun z => Maps.atKey_put_same h2 (kl_key _ _) _ z⟩
  · have hne : kl s v ≠ kl (hs.getD m z5).r (hs.getD m z5).n := fun e => by
      obtain ⟨e1, e2⟩ := kl_inj hs' hv' (hok m hm).1 (hok m hm).2 e
      exact hno m (by omega) ⟨e1.symm, e2.symm⟩
    rw [Maps.has_put_other hne]
    exact h4 s v hs' hv' fun j hj => hno j (by omega)
theorem KeepR.turned {w u u' : World} {l : List (Nat × TypeId × List Int)} (h : KeepR w l u) {b : Nat} (hb : w.heap.size ≤ b) (ht : u.mapTurned u' b) : KeepR w l u' := by
  have hg := ht.grown
  obtain ⟨es, c, _, _, hm, _⟩ := ht
  refine ⟨?_, fun x hx => ⟨(h.blk x hx).1, ?_⟩, h.apart⟩
  · exact ⟨hg.os.trans h.bel.os, hg.tape.trans h.bel.tape, hg.output.trans h.bel.output, Nat.le_trans h.bel.size hg.size, fun k hk => (hg.block k (Nat.lt_of_lt_of_le hk h.bel.size) (fun e => by injection e with e; omega)).trans (h.bel.block k hk)⟩
  · have hx := (h.blk x hx).2
    have hne : some x.1 ≠ some b := fun e => by
      injection e with e
      unfold Blk at hx
      rw [e, hm] at hx
      cases hx
    exact (hg.block x.1 hx.lt hne).trans hx
/-! ### At the operations. -/

theorem PlAt.apart {u : World} {b m base : Nat} {hs xs : List Ho} {v : Value} (h : PlAt u b hs m) (ho : Own u base v xs) : some b ≠ v.ownBlock := by
  rcases ho.2 with ⟨rfl, _⟩ | ⟨g, cap, cur, rfl, _, h2, _⟩
  · simp [Value.ownBlock]
  · intro e
    simp only [Value.ownBlock, Option.some.injEq] at e
    exact h.ne h2 e

theorem use_is {R : List Int} (hR : R.length = 288) {k n : Int} (h : useE R k n = 0) : ∃ k' : Nat, k = k' ∧ k' < 16 ∧ 0 ≤ n ∧ n ≤ 1099511627776 ∧ isB (R.getD (16 + k') 0 + n) = true ∧ useA R k n = R.set (16 + k') (R.getD (16 + k') 0 + n) := by
  by_cases hp : preU R k n = 0
  · obtain ⟨e1, e2⟩ := use_yes hp
    rw [e1] at h
    obtain ⟨j, rfl, hj, hn, hok, e3⟩ := gr_zero (by omega) h
    obtain ⟨_, o2, o3⟩ := okB_iff.1 hok
    exact ⟨j, rfl, hj, hn, (isB_iff.1 o2).2, o3, by rw [e2, e3]⟩
  · simp [useE, hp] at h
theorem give_is {R : List Int} (hR : R.length = 288) {k n : Int} (h : grE R 0 k n = 0) : ∃ k' : Nat, k = k' ∧ k' < 16 ∧ 0 ≤ n ∧ n ≤ 1099511627776 ∧ isB (R.getD k' 0 + n) = true ∧ grA R 0 k n = R.set k' (R.getD k' 0 + n) := by
  obtain ⟨j, rfl, hj, hn, hok, e3⟩ := gr_zero (by omega) h
  rw [Nat.zero_add] at hok e3
  obtain ⟨_, o2, o3⟩ := okB_iff.1 hok
  exact ⟨j, rfl, hj, hn, (isB_iff.1 o2).2, o3, e3⟩
theorem head_du {C A1 A2 : List Int} (h : C.length = 579) (h1 : A1.length = 288) (h2 : A2.length = 288) : ∀ p, p < 3 → (splice (splice C 3 A1) 291 A2).getD p 0 = C.getD p 0 := fun p hp => by
  rw [splice_get _ _ _ _ (by rw [splice_length]; omega), if_neg (by omega), splice_get _ _ _ _ (by omega), if_neg (by omega)]
theorem head_ud {C A1 A2 : List Int} (h : C.length = 579) (h1 : A1.length = 288) (h2 : A2.length = 288) : ∀ p, p < 3 → (splice (splice C 291 A1) 3 A2).getD p 0 = C.getD p 0 := fun p hp => by
  rw [splice_get _ _ _ _ (by rw [splice_length]; omega), if_neg (by omega), splice_get _ _ _ _ (by omega), if_neg (by omega)]
theorem dn_du {C A1 A2 : List Int} (h : C.length = 579) (h1 : A1.length = 288) (h2 : A2.length = 288) : dnR (splice (splice C 3 A1) 291 A2) = A1 := by
  unfold dnR; rw [splice_seg_apart (by rw [splice_length]; omega) (by rw [splice_length]; omega) (by omega), splice_seg_same h1 (by omega)]
theorem up_du {C A1 A2 : List Int} (h : C.length = 579) (h2 : A2.length = 288) : upR (splice (splice C 3 A1) 291 A2) = A2 := by
  unfold upR; rw [splice_seg_same h2 (by rw [splice_length]; omega)]
theorem up_ud {C A1 A2 : List Int} (h : C.length = 579) (h1 : A1.length = 288) (h2 : A2.length = 288) : upR (splice (splice C 291 A1) 3 A2) = A1 := by
  unfold upR; rw [splice_seg_apart (by rw [splice_length]; omega) (by rw [splice_length]; omega) (by omega), splice_seg_same h1 (by omega)]
theorem dn_ud {C A1 A2 : List Int} (h : C.length = 579) (h2 : A2.length = 288) : dnR (splice (splice C 291 A1) 3 A2) = A2 := by
  unfold dnR; rw [splice_seg_same h2 (by rw [splice_length]; omega)]

theorem both_zero {e1 e2 : Int} (h : bothE e1 e2 = 0) : e1 = 0 ∧ e2 = 0 := by
  unfold bothE at h; split at h
  · exact ⟨by assumption, h⟩
  · contradiction
/-- What adding does, where it can be. -/
theorem inc_is {C : List Int} (hC : C.length = 579) {k n : Int} (he : incE C k n = 0) :
    useE (upR C) k n = 0 ∧ grE (dnR C) 0 k n = 0 ∧ upR (incA C k n) = useA (upR C) k n ∧ dnR (incA C k n) = grA (dnR C) 0 k n ∧ (incA C k n).length = 579 ∧ ∀ p, p < 3 → (incA C k n).getD p 0 = C.getD p 0 := by
  obtain ⟨h1, h2⟩ := both_zero he
  have lu := useA_length (upR_length hC) k n
  have lg := grA_length (dnR_length hC) 0 k n
  have e : incA C k n = splice (splice C 291 (useA (upR C) k n)) 3 (grA (dnR C) 0 k n) := by unfold incA; rw [h1, h2, bothA_yes]
  exact ⟨h1, h2, by rw [e, up_ud hC lu lg], by rw [e, dn_ud hC lg], incA_length hC k n, by rw [e]; exact head_ud hC lu lg⟩
theorem dec_is {C : List Int} (hC : C.length = 579) {k n : Int} (he : decE C k n = 0) :
    useE (dnR C) k n = 0 ∧ grE (upR C) 0 k n = 0 ∧ dnR (decA C k n) = useA (dnR C) k n ∧ upR (decA C k n) = grA (upR C) 0 k n ∧ (decA C k n).length = 579 ∧ ∀ p, p < 3 → (decA C k n).getD p 0 = C.getD p 0 := by
  obtain ⟨h1, h2⟩ := both_zero he
  have lu := useA_length (dnR_length hC) k n
  have lg := grA_length (upR_length hC) 0 k n
  have e : decA C k n = splice (splice C 3 (useA (dnR C) k n)) 291 (grA (upR C) 0 k n) := by unfold decA; rw [h1, h2, bothA_yes]
  exact ⟨h1, h2, by rw [e, dn_du hC lu lg], by rw [e, up_du hC lg], decA_length hC k n, by rw [e]; exact head_du hC lu lg⟩
/-- A field that replicas of one counter know behind t steps. -/
structure Iv (i : Int) (t : Nat) (p : Pf) : Prop where
  k : p.k = 1
  nm : p.nm = ⟨#[97]⟩
  e : p.e = 0
  full : p.full
  i0 : p.C.getD 0 0 = i
  D : ∀ q, q < 288 → 0 ≤ (dnR p.C).getD q 0 ∧ (dnR p.C).getD q 0 ≤ 3000 * ((t : Int) + 1)
  U : ∀ q, q < 288 → 0 ≤ (upR p.C).getD q 0 ∧ (upR p.C).getD q 0 ≤ 3000 * ((t : Int) + 1)
  hr : rightsL p.hs = true
  ha : ∀ h ∈ p.hs, h.a ≤ 3000
  hn : ∀ h ∈ p.hs, h.n ≤ t
theorem Iv.later {i : Int} {t : Nat} {p : Pf} (h : Iv i t p) : Iv i (t + 1) p :=
  ⟨h.k, h.nm, h.e, h.full, h.i0, fun q hq => by have := h.D q hq; push_cast; omega, fun q hq => by have := h.U q hq; push_cast; omega, h.hr, h.ha, fun x hx => by have := h.hn x hx; push_cast; omega⟩
theorem bd_set {R : List Int} (hR : R.length = 288) {B n : Int} (h : ∀ q, q < 288 → 0 ≤ R.getD q 0 ∧ R.getD q 0 ≤ B) {j : Nat} (hj : j < 288) (h0 : 0 ≤ n) (h1 : n ≤ 3000) : ∀ q, q < 288 → 0 ≤ (R.set j (R.getD j 0 + n)).getD q 0 ∧ (R.set j (R.getD j 0 + n)).getD q 0 ≤ B + 3000 := fun q hq => by
  rw [set_get (by omega)]
  have h2 := h j hj
  have h3 := h q hq
  split <;> omega
theorem Iv.turn {i : Int} {t : Nat} {p : Pf} (h : Iv i t p) {C : List Int} (hl : C.length = 579) (h0 : C.getD 0 0 = p.C.getD 0 0) {a b : Nat} (ha : a < 288) (hb : b < 288) {n m : Int} (n0 : 0 ≤ n) (n1 : n ≤ 3000) (m0 : 0 ≤ m) (m1 : m ≤ 3000)
    (eD : dnR C = (dnR p.C).set a ((dnR p.C).getD a 0 + n)) (eU : upR C = (upR p.C).set b ((upR p.C).getD b 0 + m)) : Iv i (t + 1) (p.setC C) :=
  ⟨h.k, h.nm, h.e, hl, by rw [show (p.setC C).C = C from rfl, h0]; exact h.i0,
    fun q hq => by rw [show (p.setC C).C = C from rfl, eD]; have := bd_set (dnR_length h.full) h.D ha n0 n1 q hq; push_cast; omega,
    fun q hq => by rw [show (p.setC C).C = C from rfl, eU]; have := bd_set (upR_length h.full) h.U hb m0 m1 q hq; push_cast; omega,
    h.hr, h.ha, fun x hx => by have := h.hn x hx; push_cast; omega⟩
theorem Iv.dec {i : Int} {t : Nat} {p : Pf} (h : Iv i t p) {k n : Int} (n1 : n ≤ 3000) (he : decE p.C k n = 0) : Iv i (t + 1) (p.setC (decA p.C k n)) := by
  obtain ⟨e1, e2, e3, e4, e5, e6⟩ := dec_is h.full he
  obtain ⟨k1, rfl, hk1, n0, _, _, e7⟩ := use_is (dnR_length h.full) e1
  obtain ⟨k2, hk2, hk3, _, _, _, e8⟩ := give_is (upR_length h.full) e2
  exact h.turn e5 (e6 0 (by omega)) (a := 16 + k1) (b := k2) (by omega) (by omega) n0 n1 n0 n1 (by rw [e3, e7]) (by rw [e4, e8])
theorem Iv.inc {i : Int} {t : Nat} {p : Pf} (h : Iv i t p) {k n : Int} (n1 : n ≤ 3000) (he : incE p.C k n = 0) : Iv i (t + 1) (p.setC (incA p.C k n)) := by
  obtain ⟨e1, e2, e3, e4, e5, e6⟩ := inc_is h.full he
  obtain ⟨k1, rfl, hk1, n0, _, _, e7⟩ := use_is (upR_length h.full) e1
  obtain ⟨k2, hk2, hk3, _, _, _, e8⟩ := give_is (dnR_length h.full) e2
  exact h.turn e5 (e6 0 (by omega)) (a := k2) (b := 16 + k1) (by omega) (by omega) n0 n1 n0 n1 (by rw [e4, e8]) (by rw [e3, e7])
theorem Iv.add {i : Int} {t : Nat} {p : Pf} (h : Iv i t p) {k n : Int} (hn : -3000 ≤ n ∧ n ≤ 3000) (he : addPE p k n = 0) : Iv i (t + 1) (addP p k n) := by
  have e : addP p k n = p.setC (addPC p k n) := by rw [addP, he, toldP_0]
  rw [e]
  unfold addPE at he
  rw [if_pos h.k] at he
  unfold addPC
  split
  · rename_i h0
    rw [if_pos h0] at he
    exact h.inc hn.2 he
  · rename_i h0
    rw [if_neg h0] at he
    split
    · rename_i h1
      rw [if_pos h1] at he
      cases he
    · rename_i h1
      rw [if_neg h1] at he
      exact h.dec (by omega) he
theorem Iv.holds {i : Int} {t : Nat} {p : Pf} (h : Iv i t p) {hs : List Ho} (hr : rightsL hs = true) (ha : ∀ x ∈ hs, x.a ≤ 3000) (hn : ∀ x ∈ hs, x.n ≤ (t : Int) + 1) : Iv i (t + 1) (p.setH hs) :=
  ⟨h.k, h.nm, h.e, h.full, h.i0, h.later.D, h.later.U, hr, ha, fun x hx => by have := hn x hx; push_cast; omega⟩
theorem newC_get {i l h : Int} (p : Nat) : (newC i l h).getD p 0 = if p = 291 then h - i else if p = 3 then i - l else if p = 2 then h else if p = 1 then l else if p = 0 then i else 0 := by
  unfold newC
  rw [set_get (by simp [zer_length]), set_get (by simp [zer_length]), set_get (by simp [zer_length]), set_get (by simp [zer_length]), set_get (by simp [zer_length]), zer_get]
theorem Iv.start {i l h : Int} (he : ctPE ⟨#[97]⟩ i l h = 0) (hl : -1000 ≤ l) (hh : h ≤ 1000) : Iv i 0 (ctP ⟨#[97]⟩ i l h) ∧ -1000 ≤ i ∧ i ≤ 1000 := by
  have e1 : nameB ⟨#[97]⟩ = true := by decide +kernel
  have hb : newB i l h = true := by
    unfold ctPE at he
    rw [e1, if_pos rfl] at he
    unfold newE at he
    split at he
    · assumption
    · cases he
  obtain ⟨_, _, b3, b4, _⟩ := newB_iff.1 hb
  have e2 : ctP ⟨#[97]⟩ i l h = ⟨⟨#[97]⟩, 1, 0, newC i l h, zL, []⟩ := by rw [ctP, he, toldP_0]; simp [newA, hb]
  rw [e2]
  refine ⟨⟨rfl, rfl, rfl, newC_length i l h, ?_, fun q hq => ?_, fun q hq => ?_, rights_nil, by simp, by simp⟩, by omega, by omega⟩
  · show (newC i l h).getD 0 0 = i
    rw [newC_get]; rfl
  · show 0 ≤ (dnR (newC i l h)).getD q 0 ∧ (dnR (newC i l h)).getD q 0 ≤ _
    rw [dnR, seg_get hq, newC_get]
    split
    · omega
    · split
      · omega
      · split
        · omega
        · split
          · omega
          · split <;> omega
  · show 0 ≤ (upR (newC i l h)).getD q 0 ∧ (upR (newC i l h)).getD q 0 ≤ _
    rw [upR, seg_get hq, newC_get]
    split
    · omega
    · split
      · omega
      · split
        · omega
        · split
          · omega
          · split <;> omega
theorem V_top {R : List Int} {B : Int} (hB : ∀ p, p < 288 → 0 ≤ R.getD p 0 ∧ R.getD p 0 ≤ B) {j : Nat} (hj : j < 16) : V (at_ R) j ≤ B + sumF (fun _ => B) 16 := by
  have c1 := sumF_le (f := fun m => at_ R (32 + m * 16 + j)) (g := fun _ => B) (n := 16) (fun m hm => (hB _ (by omega)).2)
  have c4 := sumF_le (f := fun _ => 0) (g := fun m => at_ R (32 + j * 16 + m)) (n := 16) (fun m hm => (hB _ (by omega)).1)
  have c5 := hB j (by omega)
  have c6 := hB (16 + j) (by omega)
  rw [sumF_zero] at c4
  unfold V
  simp only [at_] at c1 c4 ⊢
  omega
/-- What is free is told, and not great. -/
theorem Iv.free {i : Int} {t : Nat} {p : Pf} (h : Iv i t p) (ht : t ≤ 100) {k : Nat} (hk : k < 16) : freeE (dnR p.C) k = 0 ∧ freeN (dnR p.C) k = V (at_ (dnR p.C)) k ∧ freeN (dnR p.C) k ≤ 10000000 := by
  have hD : ∀ q, q < 288 → 0 ≤ (dnR p.C).getD q 0 ∧ (dnR p.C).getD q 0 ≤ 303000 := fun q hq => by have := h.D q hq; omega
  obtain ⟨e1, e2⟩ := free_small (dnR_length h.full) hD (by omega) hk
  have e3 := V_top hD hk
  have e4 : sumF (fun _ => (303000 : Int)) 16 = 16 * 303000 := by decide
  exact ⟨e1, e2, by rw [e2]; omega⟩

end Go.Proofs.YtgblnlpfgdbnnaaGreat
