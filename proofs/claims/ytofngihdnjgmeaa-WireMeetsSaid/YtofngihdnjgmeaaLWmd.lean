/- A map from numbers to functions that a call has made: which are in it; the contract of wire.sayings. What each format leaves of a field, and what it leaves out: residues in memory; contracts of the functions in wire.sayings' map. -/
import Derived.Test.YtofngihdnjgmeaaLFs
import Derived.Test.YtofngihdnjgmeaaLFg
import Derived.Test.YtofngihdnjgmeaaLFhk
import Derived.Maps.OwnSet
import Derived.Maps.Views
namespace Go.Proofs.Ytofngihdnjgmeaa
set_option maxRecDepth 100000
open Go.ChangeShapes Go.WideShapes Go.ChangeAt Go.RowKit

/-! ### Functions by their number. -/
def fnR (v : Value) : Option (DataW Value × List MemPlace) := some (.held v, [])
theorem fnR_inv {v x : Value} {ps : List MemPlace} (h : fnR v = some (.held x, ps)) : v = x := by
  unfold fnR at h
  injection h with h; injection h with h _; injection h
abbrev ok64W (n : Int) : Prop := (Lit.int .i64 n).wf = true
theorem fm_keyed : Maps.Keyed Try.prog 3 := Maps.int_keyed Try.underlying3
theorem fm_key {n : Int} (h : ok64W n) : keyOf Try.prog 3 (.int .i64 n) = some (.int .i64 n) := Maps.keyOf_int_mk Try.underlying3 h
theorem fm_lit (n : Int) : WideAt.IsKeyLit (.int .i64 n) := trivial
theorem fm_zero (w : World) : (zeroValue 53).run Try.prog w = .ok .nilFunc w := by kernel_rfl
/-- Block b is the map of these functions by their number; at most n were laid in. -/
def FM (u : World) (b n : Nat) (g : Int → Option Value) : Prop :=
  ∃ D : DataW Value, u.ownsMap Try.prog 3 fnR b n D ∧ Maps.IsMap D ∧
    (∀ k v, ok64W k → g k = some v → Maps.has D (.int .i64 k) = true ∧ ∀ z, D.atKey (.int .i64 k) z = .held v) ∧
    ∀ k, ok64W k → g k = none → Maps.has D (.int .i64 k) = false
variable {u u' : World} {b n : Nat} {g : Int → Option Value}
theorem FM.is (h : FM u b n g) : ∃ es c, u.heap[b]? = some (.map es c) := by
  obtain ⟨D, ⟨es, c, hb, _⟩, _⟩ := h
  exact ⟨es, c, hb⟩
theorem FM.turn (h : FM u b n g) (hb : u'.heap[b]? = u.heap[b]?) : FM u' b n g := by
  obtain ⟨D, ⟨es, c, h1, h2, h3, h4⟩, h5⟩ := h
  exact ⟨D, ⟨es, c, hb.trans h1, h2, h3, h4⟩, h5⟩
theorem FM.lt (h : FM u b n g) : b < u.heap.size := by
  obtain ⟨es, c, hb⟩ := h.is
  exact (Array.getElem?_eq_some_iff.1 hb).1
theorem FM.below (h : FM u b n g) (hb : Below u.heap.size u u') : FM u' b n g := h.turn (hb.block b h.lt)
theorem FM.made (u : World) : FM (u.alloc (.map #[] 0)) u.heap.size 0 (fun _ => none) :=
  ⟨.map [], World.ownsMap_made u Try.prog 3 fnR, Maps.isMap_empty, fun _ _ _ h => by simp at h, fun _ _ _ => rfl⟩
theorem FM.put (h : FM u b n g) (hn : n < 1000) {k : Int} (hk : ok64W k) (v : Value) :
    ∃ u', (Instr.mapUpdate 55 (.map (some b)) (.int .i64 k) v).run Try.prog u = .ok () u' ∧ FM u' b (n + 1) (fun j => if j = k then some v else g j) ∧ u.mapTurned u' b := by
  obtain ⟨D, h1, h2, h3, h4⟩ := h
  obtain ⟨u', hr, hu, ht⟩ := h1.store fm_keyed Try.underlying55 (by unfold maxLen; omega) (fm_key hk) (show fnR v = some (.held v, []) from rfl)
  refine ⟨u', hr, ⟨_, hu, h2.put _ _, fun j x hj hx => ?_, fun j hj hx => ?_⟩, ht⟩
  · by_cases e : j = k
    · subst e
      have hx : (if j = j then some v else g j) = some x := hx
      rw [if_pos rfl] at hx
      injection hx with hx
      subst hx
      exact ⟨Maps.has_put_same h2 (fm_lit _) _, fun z => Maps.atKey_put_same h2 (fm_lit _) _ z⟩
    · have hx : (if j = k then some v else g j) = some x := hx
      rw [if_neg e] at hx
      have hne : (Lit.int .i64 j) ≠ .int .i64 k := fun h => by injection h with _ h; exact e h
      obtain ⟨a1, a2⟩ := h3 j x hj hx
      exact ⟨by rw [Maps.has_put_other hne]; exact a1, fun z => by rw [Maps.atKey_put_other hne]; exact a2 z⟩
  · by_cases e : j = k
    · have hx : (if j = k then some v else g j) = none := hx
      rw [if_pos e] at hx; cases hx
    · have hx : (if j = k then some v else g j) = none := hx
      rw [if_neg e] at hx
      have hne : (Lit.int .i64 j) ≠ .int .i64 k := fun h => by injection h with _ h; exact e h
      rw [Maps.has_put_other hne]
      exact h4 j hj hx
theorem FM.hit (h : FM u b n g) {k : Int} (hk : ok64W k) {v : Value} (hv : g k = some v) :
    (Instr.lookup 55 (.map (some b)) (.int .i64 k) true).run Try.prog u = .ok (.tuple #[v, .bool true]) u := by
  obtain ⟨D, h1, h2, h3, h4⟩ := h
  obtain ⟨a3, a4⟩ := h3 k v hk hv
  obtain ⟨x, ps, hr, hx⟩ := h1.look_ok fm_keyed Try.underlying55 (fm_zero u) (show fnR .nilFunc = some (.held .nilFunc, []) from rfl) (fm_key hk)
  rw [a4] at hx
  rw [hr, a3, fnR_inv hx]
theorem FM.miss (h : FM u b n g) {k : Int} (hk : ok64W k) (hv : g k = none) :
    (Instr.lookup 55 (.map (some b)) (.int .i64 k) true).run Try.prog u = .ok (.tuple #[.nilFunc, .bool false]) u := by
  obtain ⟨D, h1, h2, h3, h4⟩ := h
  have a3 := h4 k hk hv
  obtain ⟨x, ps, hr, hx⟩ := h1.look_ok fm_keyed Try.underlying55 (fm_zero u) (show fnR .nilFunc = some (.held .nilFunc, []) from rfl) (fm_key hk)
  rw [Maps.atKey_of_not_has a3] at hx
  rw [hr, a3, fnR_inv hx]
theorem FM.at (h : FM u b n g) {k : Int} (hk : ok64W k) {v : Value} (hv : g k = some v) :
    (Instr.lookup 55 (.map (some b)) (.int .i64 k) false).run Try.prog u = .ok v u := by
  obtain ⟨D, h1, h2, h3, h4⟩ := h
  obtain ⟨a3, a4⟩ := h3 k v hk hv
  obtain ⟨x, ps, hr, hx⟩ := h1.lookup fm_keyed Try.underlying55 (fm_zero u) (show fnR .nilFunc = some (.held .nilFunc, []) from rfl) (fm_key hk)
  rw [a4] at hx
  rw [hr, fnR_inv hx]
theorem FM.none (h : FM u b n g) {k : Int} (hk : ok64W k) (hv : g k = none) :
    (Instr.lookup 55 (.map (some b)) (.int .i64 k) false).run Try.prog u = .ok .nilFunc u := by
  obtain ⟨D, h1, h2, h3, h4⟩ := h
  have a3 := h4 k hk hv
  obtain ⟨x, ps, hr, hx⟩ := h1.lookup fm_keyed Try.underlying55 (fm_zero u) (show fnR .nilFunc = some (.held .nilFunc, []) from rfl) (fm_key hk)
  rw [Maps.atKey_of_not_has a3] at hx
  rw [hr, fnR_inv hx]
theorem mapTurned_below {a : World} (h : Below a.heap.size a u) (hb : a.heap.size ≤ b) (ht : u.mapTurned u' b) : Below a.heap.size a u' := by
  have hg := ht.grown
  exact ⟨hg.os.trans h.os, hg.tape.trans h.tape, hg.output.trans h.output, Nat.le_trans h.size hg.size, fun k hk => (hg.block k (Nat.lt_of_lt_of_le hk h.size) (fun e => by injection e with e; omega)).trans (h.block k hk)⟩
theorem Cel.turned {q : Nat} {t : TypeId} {cs : List Value} (h : Cel u q t cs) (ht : u.mapTurned u' b) : Cel u' q t cs := by
  have hg := ht.grown
  obtain ⟨es, c, _, _, hm, _⟩ := ht
  have hne : some q ≠ some b := fun e => by
    injection e with e
    unfold Cel at h
    rw [e, hm] at h
    cases h
  exact (hg.block q h.lt hne).trans h

/-! ### wire.sayings. -/
def say1 : Value := .func (.func 40) #[] #[]
def say2 (q : Nat) : Value := .func (.func 41) #[] #[.pointer (some ⟨q, 0, none⟩)]
def say3 : Value := .func (.func 42) #[] #[]
def tbl (q : Nat) (k : Int) : Option Value := if k = 1 then some (say2 q) else if k = 2 then some say1 else if k = 3 then some say3 else none
theorem fn_zero : (Try.prog.info? 53).bind (·.zero) = some .nilFunc := by kernel_rfl
section
variable {w : World} {ops : Array Oper} {rest : List Oper} {o : Oper} {a : Act} {Q : Exit → Act → World → Prop}
/-- What sayings has made. -/
structure SY (w : World) (q : Nat) (x : Value) (u : World) : Prop where
  bel : Below w.heap.size w u
  new : w.heap.size ≤ q
  cel : Cel u q 53 [x]
theorem sy_alloc (hb : Below w.heap.size w u) (hgd : o.guard = none) (ho : o.op = .alloc 53)
    (h : ∀ q u', SY w q .nilFunc u' → wpList Try.prog ops Q rest (a.put o.dst (.pointer (some ⟨q, 0, none⟩))) u') : wpList Try.prog ops Q (o :: rest) a u :=
  wpList_plain hgd fun K hK => by
    have e : (Instr.alloc 53 true (.tuple #[])).run Try.prog u = .ok (.pointer (some ⟨u.heap.size, 0, none⟩)) (u.alloc (.cells [Value.nilFunc].toArray 53)) := by
      have hz := fn_zero
      cases hq : Try.prog.info? 53 with
      | none => simp [hq] at hz
      | some i =>
        simp only [hq, Option.bind_some] at hz
        simp [Instr.alloc, zeroValue, typeInfo, hq, hz, newVar, newRow, newObj, Value.cells]
        rfl
    unfold Oper.wp execOp
    simp only [ho, Sem.run_bind, Sem.run_pure, Result.andThen_ok, e]
    exact hK _ _ (h _ _ ⟨hb.alloc hb.size _, hb.size, Cel.new u _ _⟩)
theorem sy_store {q : Nat} {x : Value} (hs : SY w q x u) (hgd : o.guard = none) (hd : o.dst = none) (y v : Operand) (ho : o.op = .store 53 y v) (hy : a.eval y = .pointer (some ⟨q, 0, none⟩)) (hv : a.eval v = say1)
    (h : ∀ u', SY w q say1 u' → wpList Try.prog ops Q rest a u') : wpList Try.prog ops Q (o :: rest) a u :=
  wpList_plain hgd fun K hK => by
    have hc := hs.cel.cell (k := 0) rfl
    have hf := hs.cel.frozen 0
    have e : (Instr.storeAt 53 (.pointer (some ⟨q, 0, none⟩)) say1).run Try.prog u = .ok () (u.setCell ⟨q, 0, none⟩ say1) := by
      have e2 : ∀ m, (store ⟨q, 0, none⟩ (.func (.func 40) #[] #[]) m).run Try.prog u = stored Try.prog u ⟨q, 0, none⟩ (.func (.func 40) #[] #[]) m := fun m => run_store Try.prog u _ _ m rfl
      simp [go_sem, hc, hf, e2, stored, say1]
    unfold Oper.wp execOp
    simp only [ho, hy, hv, Sem.run_bind, Sem.run_pure, Result.andThen_ok, e]
    have := hK _ _ (h _ ⟨hs.bel.setCell (p := ⟨q, 0, none⟩) hs.new _, hs.new, hs.cel.setCell 0 say1⟩)
    simpa [hd, Act.put, Oper.upon] using this
theorem sy_load {q : Nat} (hs : SY w q say1 u) (hgd : o.guard = none) (x : Operand) (ho : o.op = .load 53 x) (hx : a.eval x = .pointer (some ⟨q, 0, none⟩))
    (h : wpList Try.prog ops Q rest (a.put o.dst say1) u) : wpList Try.prog ops Q (o :: rest) a u :=
  wpList_plain hgd fun K hK => by
    have hc := hs.cel.cell (k := 0) rfl
    have e : (Instr.loadAt 53 (.pointer (some ⟨q, 0, none⟩))).run Try.prog u = .ok say1 u := by simp [go_sem, hc]
    unfold Oper.wp execOp
    simp only [ho, hx, Sem.run_bind, Sem.run_pure, Result.andThen_ok, e]
    exact hK _ _ h
theorem sy_make {q : Nat} {x : Value} (hs : SY w q x u) (hgd : o.guard = none) (ho : o.op = .makeMap 55 none)
    (h : ∀ b u', SY w q x u' → w.heap.size ≤ b → FM u' b 0 (fun _ => none) → wpList Try.prog ops Q rest (a.put o.dst (.map (some b))) u') : wpList Try.prog ops Q (o :: rest) a u :=
  wpList_plain hgd fun K hK => by
    have hb : Below u.heap.size u (u.alloc (.map #[] 0)) := (Below.refl _ _).alloc (Nat.le_refl _) _
    have := hK _ _ (h _ _ ⟨hs.bel.trans (hb.mono hs.bel.size), hs.new, hs.cel.below hb hs.cel.lt⟩ hs.bel.size (FM.made u))
    unfold Oper.wp
    simp [execOp, ho, run_makeMap, Result.andThen]
    exact this
theorem sy_put {q b n : Nat} {x : Value} {g : Int → Option Value} (hs : SY w q x u) (hm : FM u b n g) (hw : w.heap.size ≤ b) (hn : n < 1000) (hgd : o.guard = none) (hd : o.dst = none) (m y v : Operand) (ho : o.op = .insert 55 m y v) {k : Int} (hk : ok64W k) {F : Value}
    (em : a.eval m = .map (some b)) (ey : a.eval y = .int .i64 k) (ev : a.eval v = F)
    (h : ∀ u', SY w q x u' → FM u' b (n + 1) (fun j => if j = k then some F else g j) → wpList Try.prog ops Q rest a u') : wpList Try.prog ops Q (o :: rest) a u :=
  wpList_plain hgd fun K hK => by
    obtain ⟨u', hr, hm', ht⟩ := hm.put hn hk F
    have := hK _ _ (h u' ⟨mapTurned_below hs.bel hw ht, hs.new, hs.cel.turned ht⟩ hm')
    have e : a.put o.dst undef = a := by rw [hd]; rfl
    rw [← e] at this
    unfold Oper.wp
    simp [execOp, ho, em, ey, ev, hr, Result.andThen]
    exact this
end
theorem FM.as {g' : Int → Option Value} (h : FM u b n g) (e : ∀ k, g k = g' k) : FM u b n g' := by rw [← funext e]; exact h
theorem sayings_any (w : World) :
    Calls Try.prog 20 #[] w fun e u => ∃ b q, e = .returned (.map (some b)) ∧ FM u b 3 (tbl q) ∧ SY w q say1 u := by
  have hmf : ∀ (fn : Fn) (first cap : Array Value) (w : World), (Instr.makeFunc fn first cap).run Try.prog w = .ok (.func fn first cap) w := fun _ _ _ _ => rfl
  have HB := Lib.hid (Below.refl w.heap.size w)
  go_enter Try.func20, Try.ntmps20
  go_wp2_with (first
    | (with_reducible refine sy_alloc HB.out rfl rfl ?_; intro q u hs; have HS := Lib.hid hs; clear hs)
    | (with_reducible refine sy_store HS.out rfl rfl _ _ rfl rfl rfl ?_; intro u hs; clear HS; have HS := Lib.hid hs; clear hs)
    | (with_reducible refine sy_load HS.out rfl _ rfl rfl ?_)
    | (with_reducible refine sy_make HS.out rfl rfl ?_; intro b u hs hb hm; clear HS; have HS := Lib.hid hs; have HM := Lib.hid hm; have HW := Lib.hid hb; clear hs hm hb)
    | (with_reducible refine sy_put HS.out HM.out HW.out (by decide) rfl rfl _ _ _ rfl (by decide) rfl rfl rfl ?_; intro u hs hm; clear HS HM; have HS := Lib.hid hs; have HM := Lib.hid hm; clear hs hm))
  go_ret
  refine ⟨b, rfl, q, HM.out.as fun k => ?_, HS.out⟩
  by_cases h1 : k = 1
  · subst h1; rfl
  · by_cases h2 : k = 2
    · subst h2; rfl
    · by_cases h3 : k = 3
      · subst h3; rfl
      · simp [tbl, h1, h2, h3]
end Go.Proofs.Ytofngihdnjgmeaa

namespace Go.Proofs.Ytofngihdnjgmeaa
set_option maxRecDepth 100000
open Go.ChangeShapes Go.WideShapes Go.ChangeAt Go.RowKit

/-! ### Residues. -/
def rsc (e : Int) (A : Option Addr) (n c : Nat) : List Value := [.int .i64 e, .slice A n c]
theorem rs_zero : (Try.prog.info? 37).bind (·.zero) = some (.agg (rsc 0 none 0 0).toArray) := by kernel_rfl
theorem rs_info (e : Int) (A : Option Addr) (n c : Nat) : (Try.prog.info? 37).map (·.size) = some (rsc e A n c).length := by rw [show (rsc e A n c).length = 2 from rfl]; kernel_rfl
theorem rs_one (e : Int) (A : Option Addr) (n c : Nat) : (rsc e A n c).toArray.all (·.oneCell') = true := by simp [rsc, Value.oneCell']
theorem rs_le (e : Int) (A : Option Addr) (n c : Nat) (e' : Int) (A' : Option Addr) (n' c' : Nat) : 0 + (rsc e' A' n' c').length ≤ (rsc e A n c).length := Nat.le_refl 2
theorem rs_put (e : Int) (A : Option Addr) (n c : Nat) (e' : Int) (A' : Option Addr) (n' c' : Nat) : spl (rsc e A n c) 0 (rsc e' A' n' c') = rsc e' A' n' c' := rfl
theorem rs_all {e : Int} {A : Option Addr} {n c : Nat} : ∀ j v, (rsc e A n c)[j]? = some v → (rsc e A n c)[0 + j]? = some v := fun j v h => by rw [Nat.zero_add]; exact h
theorem rs_c0 {e : Int} {A : Option Addr} {n c : Nat} : (rsc e A n c)[0]? = some (.int .i64 e) := rfl
theorem rs_c1 {e : Int} {A : Option Addr} {n c : Nat} : (rsc e A n c)[1]? = some (.slice A n c) := rfl
theorem rs_lt1 {e : Int} {A : Option Addr} {n c : Nat} : 1 < (rsc e A n c).length := show 1 < 2 by decide
theorem rs_set1 {e : Int} {A B : Option Addr} {n c m d : Nat} : (rsc e A n c).set 1 (.slice B m d) = rsc e B m d := rfl
theorem rs_build0 (W : World) : (Instr.build 37 #[]).run Try.prog W = .ok (.agg (rsc 0 none 0 0).toArray) W := by kernel_rfl
theorem rs_build1 (e : Int) (W : World) : (Instr.build 37 #[(0, .int .i64 e)]).run Try.prog W = .ok (.agg (rsc e none 0 0).toArray) W := by kernel_rfl
theorem rs_build2 (e : Int) (A : Option Addr) (n c : Nat) (W : World) : (Instr.build 37 #[(0, .int .i64 e), (1, .slice A n c)]).run Try.prog W = .ok (.agg (rsc e A n c).toArray) W := by kernel_rfl
section
variable {ops : Array Oper} {rest : List Oper} {o : Oper} {a : Act} {w u : World} {l : List (Nat × TypeId × List Value)} {rows : List (Option Addr × Nat × List Ho)} {Q : Exit → Act → World → Prop}
theorem build_r1 (hgd : o.guard = none) (x : Operand) (ho : o.op = .build 37 #[(0, x)]) {e : Int} (hx : a.eval x = .int .i64 e)
    (h : wpList Try.prog ops Q rest (a.put o.dst (.agg (rsc e none 0 0).toArray)) u) : wpList Try.prog ops Q (o :: rest) a u :=
  wpList_plain hgd fun K hK => by
    unfold Oper.wp execOp
    simp only [ho, List.map_toArray, List.map_cons, List.map_nil, hx, Sem.run_bind, Sem.run_pure, Result.andThen_ok, rs_build1]
    exact hK _ _ h
theorem build_r2 (hgd : o.guard = none) (x y : Operand) (ho : o.op = .build 37 #[(0, x), (1, y)]) {e : Int} {A : Option Addr} {n c : Nat} (hx : a.eval x = .int .i64 e) (hy : a.eval y = .slice A n c)
    (h : wpList Try.prog ops Q rest (a.put o.dst (.agg (rsc e A n c).toArray)) u) : wpList Try.prog ops Q (o :: rest) a u :=
  wpList_plain hgd fun K hK => by
    unfold Oper.wp execOp
    simp only [ho, List.map_toArray, List.map_cons, List.map_nil, hx, hy, Sem.run_bind, Sem.run_pure, Result.andThen_ok, rs_build2]
    exact hK _ _ h
theorem KeepF.sub (h : KeepF w l rows u) {l' : List (Nat × TypeId × List Value)} (hs : l'.Sublist l) : KeepF w l' rows u :=
  ⟨h.bel, fun x hx => h.blk x (hs.subset hx), (hs.map Prod.fst).nodup h.apart, h.row, fun r hr x hx => h.free r hr x (hs.subset hx)⟩
theorem results_ff {fn : Func} {p q : Tmp} {ty tz : TypeId} {d e : TypeDesc} {cs ds : List Value} (h : fn.results = #[.cell p ty, .cell q tz]) (hu : Try.prog.underlying ty = some d) (hd : d.isRow = true) (hs : (Try.prog.info? ty).map (·.size) = some cs.length)
    (hu' : Try.prog.underlying tz = some e) (hd' : e.isRow = true) (hs' : (Try.prog.info? tz).map (·.size) = some ds.length) (tmps : Array Value) (hk : KeepF w l rows u) (i j : Nat) {b c : Nat}
    (hi : l[i]? = some (b, ty, cs)) (hj : l[j]? = some (c, tz, ds)) (hp : tmps.getD p undef = .pointer (some ⟨b, 0, none⟩)) (hq : tmps.getD q undef = .pointer (some ⟨c, 0, none⟩)) : (results fn tmps).run Try.prog u = .ok (.tuple #[.agg cs.toArray, .agg ds.toArray]) u := by
  have hp' : tmps[p]?.getD undef = .pointer (some ⟨b, 0, none⟩) := by simpa using hp
  have hq' : tmps[q]?.getD undef = .pointer (some ⟨c, 0, none⟩) := by simpa using hq
  have hr := run_loadVar_row (P := Try.prog) u b _ ty _ (0, 0) _ (hk.get i hi) hu (by cases d <;> simp_all) (by rw [List.size_toArray]; exact hs)
  have hr' := run_loadVar_row (P := Try.prog) u c _ tz _ (0, 0) _ (hk.get j hj) hu' (by cases e <;> simp_all) (by rw [List.size_toArray]; exact hs')
  simp [results, h, hp', hq', asAddr, hr, hr']
theorem results_fft {fn : Func} {p q t : Tmp} {ty tz : TypeId} {d e : TypeDesc} {cs ds : List Value} (h : fn.results = #[.cell p ty, .cell q tz, .tmp t]) (hu : Try.prog.underlying ty = some d) (hd : d.isRow = true) (hs : (Try.prog.info? ty).map (·.size) = some cs.length)
    (hu' : Try.prog.underlying tz = some e) (hd' : e.isRow = true) (hs' : (Try.prog.info? tz).map (·.size) = some ds.length) (tmps : Array Value) (hk : KeepF w l rows u) (i j : Nat) {b c : Nat} (v : Value)
    (hi : l[i]? = some (b, ty, cs)) (hj : l[j]? = some (c, tz, ds)) (hp : tmps.getD p undef = .pointer (some ⟨b, 0, none⟩)) (hq : tmps.getD q undef = .pointer (some ⟨c, 0, none⟩)) (ht : tmps.getD t undef = v) : (results fn tmps).run Try.prog u = .ok (.tuple #[.agg cs.toArray, .agg ds.toArray, v]) u := by
  have hp' : tmps[p]?.getD undef = .pointer (some ⟨b, 0, none⟩) := by simpa using hp
  have hq' : tmps[q]?.getD undef = .pointer (some ⟨c, 0, none⟩) := by simpa using hq
  have ht' : tmps[t]?.getD undef = v := by simpa using ht
  have hr := run_loadVar_row (P := Try.prog) u b _ ty _ (0, 0) _ (hk.get i hi) hu (by cases d <;> simp_all) (by rw [List.size_toArray]; exact hs)
  have hr' := run_loadVar_row (P := Try.prog) u c _ tz _ (0, 0) _ (hk.get j hj) hu' (by cases e <;> simp_all) (by rw [List.size_toArray]; exact hs')
  simp [results, h, hp', hq', ht', asAddr, hr, hr']
end
theorem Pf.lt2 {p : Pf} {A : Option Addr} {c : Nat} (hp : p.full) : 2 < (p.fd A c).cells.length := by rw [Pf.len hp]; decide
def Pf.setE (p : Pf) (e : Int) : Pf := ⟨p.nm, p.k, e, p.C, p.L, p.hs⟩
theorem Pf.toE' {p : Pf} {A : Option Addr} {c : Nat} (e : Int) : (p.fd A c).cells.set 2 (.int .i64 e) = ((p.setE e).fd A c).cells := rfl
theorem Pf.fullE {p : Pf} (h : p.full) (e : Int) : (p.setE e).full := h
set_option maxHeartbeats 1000000 in
theorem say1_any (p : Pf) (hp : p.full) (A : Option Addr) (c : Nat) (w : World) :
    Calls Try.prog 40 #[.agg (p.fd A c).cells.toArray] w fun e w' => e = .returned (.tuple #[.agg ((p.setE 0).fd A c).cells.toArray, .agg (rsc p.e none 0 0).toArray]) ∧ Below w.heap.size w w' := by
  have HK := Lib.hid (KeepF.start (w := w) (rows := []) (by simp))
  have HF := Lib.hid hp; clear hp
  have HG := Lib.hid (Pf.fullE HF.out 0)
  go_enter Try.func40, Try.ntmps40
  go_wp2_with (first
    | (with_reducible refine box_f HK.out rfl _ rfl rfl ?_; intro b1 u hk; clear HK; have HK := Lib.hid hk; clear hk)
    | (with_reducible refine alloc_f HK.out f_zeroP rfl rfl ?_; intro b2 u hk; clear HK; have HK := Lib.hid hk; clear hk)
    | (with_reducible refine load_f1 HK.out 2 cbI _ rfl rfl rfl rfl Pf.ce ?_)
    | (with_reducible refine build_r1 rfl _ rfl rfl ?_)
    | (with_reducible refine alloc_f (l := [_, _]) HK.out rs_zero rfl rfl ?_; intro b3 u hk; clear HK; have HK := Lib.hid hk; clear hk)
    | (with_reducible refine alloc_f (l := [_, _, _]) HK.out rs_zero rfl rfl ?_; intro b4 u hk; clear HK; have HK := Lib.hid hk; clear hk)
    | (with_reducible refine store_fr HK.out 0 (rs_info _ _ _ _) (rs_one _ _ _ _) rfl rfl _ _ rfl rfl rfl rfl (rs_le _ _ _ _ _ _ _ _) (rs_put _ _ _ _ _ _ _ _) ?_; intro u hk; simp only [List.set_cons_zero] at hk; clear HK; have HK := Lib.hid hk; clear hk)
    | (with_reducible refine store_f1 HK.out 3 cbI rfl rfl _ _ rfl rfl rfl rfl rfl (Pf.lt2 HF.out) (Pf.toE' 0) ?_; intro u hk; simp only [List.set_cons_zero, List.set_cons_succ] at hk; clear HK; have HK := Lib.hid hk; clear hk))
  refine Draws.start (S := fun u => KeepF w [(b4, 37, rsc p.e none 0 0), (b1, 33, ((p.setE 0).fd A c).cells)] [] u) (n := 3) 4 rfl (by kernel_rfl) ?_
  have hk := HK.out.drew
  clear HK; have HK := Lib.hid hk; clear hk
  have HS := Lib.hid (show (fun u => KeepF w [(b4, 37, rsc p.e none 0 0), (b1, 33, ((p.setE 0).fd A c).cells)] [] u) _ from HK.out.sub (by repeat first | exact List.nil_sublist _ | apply List.Sublist.cons_cons | apply List.Sublist.cons))
  refine Draws.take 0 HS.out rfl (by kernel_rfl) (fun _ _ _ h => h) (yield_fr (fun _ h => h) 1 Try.underlying33 rfl (Pf.infoF HG.out) _ rfl rfl rfl rfl Pf.all) ?_
  (try simp only [Act.put, List.setIfInBounds_toArray, List.set_cons_zero, List.set_cons_succ])
  refine Draws.take 1 HS.out rfl (by kernel_rfl) (fun _ _ _ h => h) (yield_fr (fun _ h => h) 0 Try.underlying37 rfl (rs_info _ _ _ _) _ rfl rfl rfl rfl rs_all) ?_
  (try simp only [Act.put, List.setIfInBounds_toArray, List.set_cons_zero, List.set_cons_succ])
  refine Draws.does 2 rfl (by kernel_rfl) rfl (fun K hK => ?_)
  refine wp_store_fr HK.out 2 (Pf.infoF HG.out) (Fd.one _) rfl _ _ rfl rfl rfl rfl (Fd.leP zP_full HG.out) (Fd.setAllP zP_full HG.out) ?_
  intro u hk _
  simp only [List.set_cons_zero, List.set_cons_succ] at hk
  clear HK; have HK := Lib.hid hk; clear hk
  refine hK.out _ _ (fun _ => HK.out.sub (by repeat first | exact List.nil_sublist _ | apply List.Sublist.cons_cons | apply List.Sublist.cons)) ?_
  clear hK K
  (try simp only [Act.put, List.setIfInBounds_toArray, List.set_cons_zero, List.set_cons_succ])
  refine Draws.does 3 rfl (by kernel_rfl) rfl (fun K hK => ?_)
  refine wp_store_fr HK.out 1 (rs_info _ _ _ _) (rs_one _ _ _ _) rfl _ _ rfl rfl rfl rfl (rs_le _ _ _ _ _ _ _ _) (rs_put _ _ _ _ _ _ _ _) ?_
  intro u hk _
  simp only [List.set_cons_zero, List.set_cons_succ] at hk
  clear HK; have HK := Lib.hid hk; clear hk
  refine hK.out _ _ (fun h => absurd h (by decide)) ?_
  clear hK K
  (try simp only [Act.put, List.setIfInBounds_toArray, List.set_cons_zero, List.set_cons_succ])
  refine Draws.done (by kernel_rfl) ?_
  clear HS
  go_wp2_with fail
  exact bodyPost_ret (results_ff rfl Try.underlying33 rfl (Pf.infoF HG.out) Try.underlying37 rfl (rs_info _ _ _ _) _ HK.out 2 1 rfl rfl rfl rfl) rfl ⟨rfl, HK.out.bel⟩
set_option maxHeartbeats 1000000 in
theorem say3_any (p : Pf) (hp : p.full) (A : Option Addr) (c : Nat) (w : World) :
    Calls Try.prog 42 #[.agg (p.fd A c).cells.toArray] w fun e w' => e = .returned (.tuple #[.agg (p.fd A c).cells.toArray, .agg (rsc 0 none 0 0).toArray]) ∧ Below w.heap.size w w' := by
  have HK := Lib.hid (KeepF.start (w := w) (rows := []) (by simp))
  have HF := Lib.hid hp; clear hp
  go_enter Try.func42, Try.ntmps42
  go_wp2_with (first
    | (with_reducible refine box_f HK.out rfl _ rfl rfl ?_; intro b1 u hk; clear HK; have HK := Lib.hid hk; clear hk)
    | (with_reducible refine alloc_f HK.out f_zeroP rfl rfl ?_; intro b2 u hk; clear HK; have HK := Lib.hid hk; clear hk)
    | (with_reducible refine alloc_f HK.out rs_zero rfl rfl ?_; intro b3 u hk; clear HK; have HK := Lib.hid hk; clear hk)
    | (with_reducible refine load_fr HK.out 2 Try.underlying33 rfl (Pf.infoF HF.out) _ rfl rfl rfl rfl Pf.all ?_)
    | (with_reducible refine build_f rs_build0 rfl rfl ?_)
    | (with_reducible refine store_fr HK.out 1 (Pf.infoF HF.out) (Fd.one _) rfl rfl _ _ rfl rfl rfl rfl (Fd.leP zP_full HF.out) (Fd.setAllP zP_full HF.out) ?_; intro u hk; simp only [List.set_cons_zero, List.set_cons_succ] at hk; clear HK; have HK := Lib.hid hk; clear hk)
    | (with_reducible refine store_fr HK.out 0 (rs_info _ _ _ _) (rs_one _ _ _ _) rfl rfl _ _ rfl rfl rfl rfl (rs_le _ _ _ _ _ _ _ _) (rs_put _ _ _ _ _ _ _ _) ?_; intro u hk; simp only [List.set_cons_zero] at hk; clear HK; have HK := Lib.hid hk; clear hk))
  exact bodyPost_ret (results_ff rfl Try.underlying33 rfl (Pf.infoF HF.out) Try.underlying37 rfl (rs_info _ _ _ _) _ HK.out 1 0 rfl rfl rfl rfl) rfl ⟨rfl, HK.out.bel⟩
theorem run_load_fn {W : World} {ad : Addr} {v : Value} (hc : W.cell? ad = some v) : (Instr.loadAt 53 (.pointer (some ad))).run Try.prog W = .ok v W := by simp [go_sem, hc]
theorem load_fn {ops : Array Oper} {rest : List Oper} {o : Oper} {a : Act} {u : World} {Q : Exit → Act → World → Prop} {ad : Addr} {v : Value} (hc : u.cell? ad = some v) (hgd : o.guard = none) (x : Operand) (ho : o.op = .load 53 x) (hx : a.eval x = .pointer (some ad))
    (h : wpList Try.prog ops Q rest (a.put o.dst v) u) : wpList Try.prog ops Q (o :: rest) a u :=
  wpList_plain hgd fun K hK => by
    unfold Oper.wp execOp
    simp only [ho, hx, Sem.run_bind, Sem.run_pure, Result.andThen_ok, run_load_fn hc]
    exact hK _ _ h
theorem Pf.toN {p : Pf} {A : Option Addr} {c : Nat} (hp : p.full) : (p.fd A c).cells.set 586 (.slice none 0 0) = ((p.setH []).fd none 0).cells := Pf.toH hp none 0 []
set_option maxHeartbeats 2000000 in
theorem say2_any (p : Pf) (hp : p.full) (A : Option Addr) (c q : Nat) (w : World) (hq : w.cell? ⟨q, 0, none⟩ = some say1) :
    Calls Try.prog 41 #[.agg (p.fd A c).cells.toArray, .pointer (some ⟨q, 0, none⟩)] w fun e w' => e = .returned (.tuple #[.agg (((p.setE 0).setH []).fd none 0).cells.toArray, .agg (rsc p.e A p.hs.length c).toArray]) ∧ Below w.heap.size w w' := by
  have HK := Lib.hid (KeepF.start (w := w) (rows := []) (by simp))
  have HF := Lib.hid hp; clear hp
  have HG := Lib.hid (Pf.fullE HF.out 0)
  have HI := Lib.hid (Pf.fullH HG.out [])
  have HQ := Lib.hid (show w.cell? ⟨q, 0, none⟩ = some (.func (.func 40) #[] #[]) from hq); have HL := Lib.hid (cell_lt hq); clear hq
  have hcl := say1_any p HF.out A c
  go_enter Try.func41, Try.ntmps41
  go_wp2_with (first
    | (with_reducible refine box_f HK.out rfl _ rfl rfl ?_; intro b1 u hk; clear HK; have HK := Lib.hid hk; clear hk)
    | (with_reducible refine alloc_f (l := [_]) HK.out f_zeroP rfl rfl ?_; intro b2 u hk; clear HK; have HK := Lib.hid hk; clear hk)
    | (with_reducible refine alloc_f (l := [_, _]) HK.out rs_zero rfl rfl ?_; intro b3 u hk; clear HK; have HK := Lib.hid hk; clear hk)
    | (with_reducible refine alloc_f (l := [_, _, _]) HK.out f_zeroP rfl rfl ?_; intro b4 u hk; clear HK; have HK := Lib.hid hk; clear hk)
    | (with_reducible refine alloc_f (l := [_, _, _, _]) HK.out rs_zero rfl rfl ?_; intro b5 u hk; clear HK; have HK := Lib.hid hk; clear hk)
    | (with_reducible refine load_fn ((HK.out.bel.cell HL.out).trans HQ.out) rfl _ rfl rfl ?_)
    | (with_reducible refine load_fr HK.out 2 Try.underlying33 rfl (Pf.infoF HF.out) _ rfl rfl rfl rfl Pf.all ?_)
    | (go_at_call 40; (with_reducible refine (hcl _).mono ?_); rintro e u ⟨rfl, hb⟩; have hk := HK.out.call hb; clear hb; clear HK; have HK := Lib.hid hk; clear hk)
    | (with_reducible refine store_fr HK.out 1 (Pf.infoF HG.out) (Fd.one _) rfl rfl _ _ rfl rfl rfl rfl (Fd.leP zP_full HG.out) (Fd.setAllP zP_full HG.out) ?_; intro u hk; simp only [List.set_cons_zero, List.set_cons_succ] at hk; clear HK; have HK := Lib.hid hk; clear hk)
    | (with_reducible refine store_fr HK.out 0 (rs_info _ _ _ _) (rs_one _ _ _ _) rfl rfl _ _ rfl rfl rfl rfl (rs_le _ _ _ _ _ _ _ _) (rs_put _ _ _ _ _ _ _ _) ?_; intro u hk; simp only [List.set_cons_zero] at hk; clear HK; have HK := Lib.hid hk; clear hk)
    | (with_reducible refine load_f1 HK.out 1 cbH _ rfl rfl rfl rfl (Pf.cH HG.out) ?_)
    | (with_reducible refine store_f1 HK.out 0 cbH rfl rfl _ _ rfl rfl rfl rfl rfl rs_lt1 rs_set1 ?_; intro u hk; simp only [List.set_cons_zero] at hk; clear HK; have HK := Lib.hid hk; clear hk)
    | (with_reducible refine store_f1 HK.out 1 cbH rfl rfl _ _ rfl rfl rfl rfl rfl (Fd.ltH HG.out) (Pf.toN HG.out) ?_; intro u hk; simp only [List.set_cons_zero, List.set_cons_succ] at hk; clear HK; have HK := Lib.hid hk; clear hk))
  refine Draws.start (S := fun u => KeepF w [(b5, 37, rsc p.e A p.hs.length c), (b4, 33, (((p.setE 0).setH []).fd none 0).cells)] [] u) (n := 3) 4 rfl (by kernel_rfl) ?_
  have hk := HK.out.drew
  clear HK; have HK := Lib.hid hk; clear hk
  have HS := Lib.hid (show (fun u => KeepF w [(b5, 37, rsc p.e A p.hs.length c), (b4, 33, (((p.setE 0).setH []).fd none 0).cells)] [] u) _ from HK.out.sub (by repeat first | exact List.nil_sublist _ | apply List.Sublist.cons_cons | apply List.Sublist.cons))
  refine Draws.take 0 HS.out rfl (by kernel_rfl) (fun _ _ _ h => h) (yield_fr (fun _ h => h) 1 Try.underlying33 rfl (Pf.infoF HI.out) _ rfl rfl rfl rfl Pf.all) ?_
  (try simp only [Act.put, List.setIfInBounds_toArray, List.set_cons_zero, List.set_cons_succ])
  refine Draws.take 1 HS.out rfl (by kernel_rfl) (fun _ _ _ h => h) (yield_fr (fun _ h => h) 0 Try.underlying37 rfl (rs_info _ _ _ _) _ rfl rfl rfl rfl rs_all) ?_
  (try simp only [Act.put, List.setIfInBounds_toArray, List.set_cons_zero, List.set_cons_succ])
  refine Draws.does 2 rfl (by kernel_rfl) rfl (fun K hK => ?_)
  refine wp_store_fr HK.out 3 (Pf.infoF HI.out) (Fd.one _) rfl _ _ rfl rfl rfl rfl (Fd.leP zP_full HI.out) (Fd.setAllP zP_full HI.out) ?_
  intro u hk _
  simp only [List.set_cons_zero, List.set_cons_succ] at hk
  clear HK; have HK := Lib.hid hk; clear hk
  refine hK.out _ _ (fun _ => HK.out.sub (by repeat first | exact List.nil_sublist _ | apply List.Sublist.cons_cons | apply List.Sublist.cons)) ?_
  clear hK K
  (try simp only [Act.put, List.setIfInBounds_toArray, List.set_cons_zero, List.set_cons_succ])
  refine Draws.does 3 rfl (by kernel_rfl) rfl (fun K hK => ?_)
  refine wp_store_fr HK.out 2 (rs_info _ _ _ _) (rs_one _ _ _ _) rfl _ _ rfl rfl rfl rfl (rs_le _ _ _ _ _ _ _ _) (rs_put _ _ _ _ _ _ _ _) ?_
  intro u hk _
  simp only [List.set_cons_zero, List.set_cons_succ] at hk
  clear HK; have HK := Lib.hid hk; clear hk
  refine hK.out _ _ (fun h => absurd h (by decide)) ?_
  clear hK K
  (try simp only [Act.put, List.setIfInBounds_toArray, List.set_cons_zero, List.set_cons_succ])
  refine Draws.done (by kernel_rfl) ?_
  clear HS
  go_wp2_with fail
  exact bodyPost_ret (results_ff rfl Try.underlying33 rfl (Pf.infoF HI.out) Try.underlying37 rfl (rs_info _ _ _ _) _ HK.out 3 2 rfl rfl rfl rfl) rfl ⟨rfl, HK.out.bel⟩
end Go.Proofs.Ytofngihdnjgmeaa
