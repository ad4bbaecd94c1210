/- What the walks of fields stand on: results, yields, holds appended; contracts of headOf and apart.; A map from numbers to functions that a call has made: which are in it; the contract of wire.sayings.; Contracts of the changes that field.Add, Hand, Write, Pass, Reserve and End hand to changed.; Contracts of the changes that field.Reserve and End hand to changed.; Contracts of field.changed, and of Add, Hand, Write, Pass, Reserve and End.; Contracts of field.Same and the document's Same of fields that are the same. -/
import Derived.Test.YtofngihdnjgmeaaGreatY01
import Derived.Test.YtofngihdnjgmeaaGreatY07
import Derived.Test.YtofngihdnjgmeaaGreatY09
import Derived.Test.YtofngihdnjgmeaaGreatY11
import Derived.Test.YtofngihdnjgmeaaGreatY12
import Derived.Test.YtofngihdnjgmeaaGreatY18
import Derived.Maps.AppendAt
import Derived.OwnWalk
import Derived.Laws.OwnMore
import Derived.WalkKit
import Derived.ProofKit
import Derived.OpenShut
import Derived.ChangeOld
import Derived.Deep.Slices
import Derived.ChangeSlices
import Derived.Laws.AppendOwn
import Derived.Lib.Hide
import Derived.Deep.RegionHeld3
import Derived.Below
import Derived.Deep.MidRow
import Derived.Deep.QuietTactic
import Derived.BigQuiet
import Derived.Laws.StructEq
import Derived.WalkMore
import Derived.LoopTactic
import Derived.Defers
import Derived.Recover
import Derived.WalkSmall
import Derived.Lib.AppendZeros
import Derived.Deep.OwnRows
import Derived.Lib.SliceRun
import Derived.Shelf.SlSortCmp.WholeK
import Derived.Shelf.SlSortCmp.NoneTotal
import Derived.Maps.OwnSet
import Derived.Maps.Views
namespace Go.Proofs.YtofngihdnjgmeaaGreat
set_option maxRecDepth 100000
open Go.ChangeShapes Go.WideShapes Go.ChangeAt Go.RowKit

section
variable {w u : World} {l : List (Nat × TypeId × List Value)} {rows : List (Option Addr × Nat × List Ho)}
theorem results_f1 {fn : Func} {p : Tmp} {ty : TypeId} {d : TypeDesc} {cs : List Value} (h : fn.results = #[.cell p ty]) (hu : Tryz.prog.underlying ty = some d) (hd : d.isRow = true) (hs : (Tryz.prog.info? ty).map (·.size) = some cs.length) (tmps : Array Value) (hk : KeepF w l rows u) (i : Nat) {b : Nat}
    (hi : l[i]? = some (b, ty, cs)) (hp : tmps.getD p undef = .pointer (some ⟨b, 0, none⟩)) : (results fn tmps).run Tryz.prog u = .ok (.agg cs.toArray) u :=
  results_cell_row h tmps u b _ _ (0, 0) d hp (hk.get i hi) hu (by cases d <;> simp_all) (by rw [List.size_toArray]; exact hs)
theorem results_f2 {fn : Func} {p q : Tmp} {ty : TypeId} {d : TypeDesc} {cs : List Value} (h : fn.results = #[.cell p ty, .tmp q]) (hu : Tryz.prog.underlying ty = some d) (hd : d.isRow = true) (hs : (Tryz.prog.info? ty).map (·.size) = some cs.length) (tmps : Array Value) (hk : KeepF w l rows u) (i : Nat) {b : Nat} (v : Value)
    (hi : l[i]? = some (b, ty, cs)) (hp : tmps.getD p undef = .pointer (some ⟨b, 0, none⟩)) (hq : tmps.getD q undef = v) : (results fn tmps).run Tryz.prog u = .ok (.tuple #[.agg cs.toArray, v]) u := by
  have hp' : tmps[p]?.getD undef = .pointer (some ⟨b, 0, none⟩) := by simpa using hp
  have hq' : tmps[q]?.getD undef = v := by simpa using hq
  have hr := run_loadVar_row (P := Tryz.prog) u b _ ty _ (0, 0) _ (hk.get i hi) hu (by cases d <;> simp_all) (by rw [List.size_toArray]; exact hs)
  simp [results, h, hp', hq', asAddr, hr]
theorem results_f3 {fn : Func} {p q r : Tmp} {ty : TypeId} {d : TypeDesc} {cs : List Value} (h : fn.results = #[.cell p ty, .tmp q, .tmp r]) (hu : Tryz.prog.underlying ty = some d) (hd : d.isRow = true) (hs : (Tryz.prog.info? ty).map (·.size) = some cs.length) (tmps : Array Value) (hk : KeepF w l rows u) (i : Nat) {b : Nat} (v v' : Value)
    (hi : l[i]? = some (b, ty, cs)) (hp : tmps.getD p undef = .pointer (some ⟨b, 0, none⟩)) (hq : tmps.getD q undef = v) (hr : tmps.getD r undef = v') : (results fn tmps).run Tryz.prog u = .ok (.tuple #[.agg cs.toArray, v, v']) u := by
  have hp' : tmps[p]?.getD undef = .pointer (some ⟨b, 0, none⟩) := by simpa using hp
  have hq' : tmps[q]?.getD undef = v := by simpa using hq
  have hr' : tmps[r]?.getD undef = v' := by simpa using hr
  have hr := run_loadVar_row (P := Tryz.prog) u b _ ty _ (0, 0) _ (hk.get i hi) hu (by cases d <;> simp_all) (by rw [List.size_toArray]; exact hs)
  simp [results, h, hp', hq', hr', asAddr, hr]
end
section
variable {ops : Array Oper} {rest : List Oper} {o : Oper} {a : Act} {w u : World} {l : List (Nat × TypeId × List Value)} {rows : List (Option Addr × Nat × List Ho)} {Q : Exit → Act → World → Prop} {K : Act → World → Prop} {S : World → Prop}
/-- A cell yields the same wherever it is kept. -/
theorem yield_c {ty : TypeId} (ht : cellB ty = true) {ad : Addr} {v : Value} (hS : ∀ u, S u → u.cell? ad = some v) (x : Operand) (ho : o.op = .load ty x) (hx : a.eval x = .pointer (some ad)) (hw : Region.wanted o (yielded ops a.tmps) = true) : YieldsIf Tryz.prog ops S o v a :=
  .inl ⟨hw, fun u' hu => by
    unfold execOp
    simp only [ho, hx, Sem.run_bind, Sem.run_pure, Result.andThen_ok, run_load_f1 ht (hS u' hu)]⟩
/-- A part of a kept block yields the same wherever it is kept. -/
theorem yield_fr (hk : ∀ u, S u → KeepF w l rows u) (i : Nat) {ty : TypeId} {d : TypeDesc} (hu : Tryz.prog.underlying ty = some d) (hd : d.isRow = true) {xs : List Value} (hs : (Tryz.prog.info? ty).map (·.size) = some xs.length)
    (x : Operand) (ho : o.op = .load ty x) {b off : Nat} {t : TypeId} {cs : List Value} (hi : l[i]? = some (b, t, cs)) (hx : a.eval x = .pointer (some ⟨b, off, none⟩)) (hw : Region.wanted o (yielded ops a.tmps) = true) (hr : ∀ j v, xs[j]? = some v → cs[off + j]? = some v) :
    YieldsIf Tryz.prog ops S o (.agg xs.toArray) a :=
  yieldsIf_load_mid hw ty x ho b off hx xs d (fun u h => ((hk u h).get i hi).range hr) hu hd hs
theorem wp_load_fr (hk : KeepF w l rows u) (i : Nat) {ty : TypeId} {d : TypeDesc} (hu : Tryz.prog.underlying ty = some d) (hd : d.isRow = true) {xs : List Value} (hs : (Tryz.prog.info? ty).map (·.size) = some xs.length)
    (x : Operand) (ho : o.op = .load ty x) {b off : Nat} {t : TypeId} {cs : List Value} (hi : l[i]? = some (b, t, cs)) (hx : a.eval x = .pointer (some ⟨b, off, none⟩)) (hr : ∀ j v, xs[j]? = some v → cs[off + j]? = some v)
    (h : K (a.put o.dst (.agg xs.toArray)) u) : o.wp Tryz.prog a u K Q :=
  wp_load_mid ty x ho b off hx xs d ((hk.get i hi).range hr) hu hd hs h
theorem KeepF.cellAt (hk : KeepF w l rows u) (i : Nat) {b : Nat} {t : TypeId} {cs : List Value} (hi : l[i]? = some (b, t, cs)) {k : Nat} {v : Value} (hv : cs[k]? = some v) : u.cell? ⟨b, k, none⟩ = some v := (hk.get i hi).cell hv
/-- Holds, appended to none: a slice of their own. -/
theorem wp_app_f (hk : KeepF w l rows u) (s x : Operand) (ho : o.op = .call { callee := .builtin .append, args := #[s, x], argTypes := #[31, 31] }) (hs : a.eval s = .slice none 0 0)
    {A : Option Addr} {m c : Nat} {zs : List Ho} (hx : a.eval x = .slice A m c) (hr : Row u A m zs)
    (h : ∀ A' c' u', KeepF w l ((A', zs.length, zs) :: rows) u' → Fresh u.heap.size A' c' zs → K (a.put o.dst (.slice A' zs.length c')) u') : o.wp Tryz.prog a u K Q := by
  obtain ⟨v', w', hrun, h2, h3, h4⟩ := append_hos u u.heap.size o.type (.slice none 0 0) [] (Own.nil _ _) A m c zs hr (by have := hr.2.1; simp; omega) (Nat.le_refl _)
  rw [List.nil_append] at h2
  obtain ⟨A', c', rfl⟩ := h2.slice
  have hb : Below u.heap.size u w' := (Below.refl _ _).grown h3 (Nat.le_refl _) (by simp [Value.ownBlock])
  unfold Oper.wp execOp
  simp only [ho, resolve, invoke, builtin, Sem.run_bind, Sem.run_pure, Result.andThen_ok, List.map_toArray, List.map_cons, List.map_nil, hs, hx, hrun]
  exact h A' c' w' (hk.own hb h2 (by have := hr.1; have := hr.2.1; omega)) (Fresh.own h2)
theorem app_f (hk : KeepF w l rows u) (hgd : o.guard = none) (s x : Operand) (ho : o.op = .call { callee := .builtin .append, args := #[s, x], argTypes := #[31, 31] }) (hs : a.eval s = .slice none 0 0)
    {A : Option Addr} {m c : Nat} {zs : List Ho} (hx : a.eval x = .slice A m c) (hr : Row u A m zs)
    (h : ∀ A' c' u', KeepF w l ((A', zs.length, zs) :: rows) u' → Fresh u.heap.size A' c' zs → wpList Tryz.prog ops Q rest (a.put o.dst (.slice A' zs.length c')) u') : wpList Tryz.prog ops Q (o :: rest) a u :=
  wpList_plain hgd fun _ hK => wp_app_f hk s x ho hs hx hr fun A' c' u' h1 h2 => hK _ _ (h A' c' u' h1 h2)
end

theorem f_zeroP : (Tryz.prog.info? 33).bind (·.zero) = some (.agg (zP.fd none 0).cells.toArray) := f_zero
theorem f_buildP (W : World) : (Instr.build 33 #[]).run Tryz.prog W = .ok (.agg (zP.fd none 0).cells.toArray) W := f_build W
theorem Fd.setAllP {p q : Pf} {A B : Option Addr} {c d : Nat} (hp : p.full) (hq : q.full) : spl (p.fd A c).cells 0 (q.fd B d).cells = (q.fd B d).cells := Fd.setAll (f := p.fd A c) (g := q.fd B d) hp hq
theorem Fd.leP {p q : Pf} {A B : Option Addr} {c d : Nat} (hp : p.full) (hq : q.full) : 0 + (q.fd B d).cells.length ≤ (p.fd A c).cells.length := by rw [Pf.len hp, Pf.len hq]; decide
theorem Fd.ltH {p : Pf} {A : Option Addr} {c : Nat} (hp : p.full) : 586 < (p.fd A c).cells.length := by rw [Pf.len hp]; decide
/-! ### headOf. -/
def headC (p : Pf) : List Value := [.string p.nm, .int .i64 p.k, .int .i64 p.e]
theorem hd_build (s : ByteArray) (x y : Int) (W : World) : (Instr.build 96 #[(0, .string s), (1, .int .i64 x), (2, .int .i64 y)]).run Tryz.prog W = .ok (.agg #[.string s, .int .i64 x, .int .i64 y]) W := by kernel_rfl
theorem hd_zero : (Tryz.prog.info? 96).bind (·.zero) = some (.agg [.string ByteArray.empty, .int .i64 0, .int .i64 0].toArray) := by kernel_rfl
theorem hd_info (p : Pf) : (Tryz.prog.info? 96).map (·.size) = some (headC p).length := by rw [show (headC p).length = 3 from rfl]; kernel_rfl
theorem build_hd {ops : Array Oper} {rest : List Oper} {o : Oper} {a : Act} {u : World} {Q : Exit → Act → World → Prop} (hgd : o.guard = none) (x0 x1 x2 : Operand) (ho : o.op = .build 96 #[(0, x0), (1, x1), (2, x2)]) {p : Pf}
    (h0 : a.eval x0 = .string p.nm) (h1 : a.eval x1 = .int .i64 p.k) (h2 : a.eval x2 = .int .i64 p.e)
    (h : wpList Tryz.prog ops Q rest (a.put o.dst (.agg (headC p).toArray)) u) : wpList Tryz.prog ops Q (o :: rest) a u :=
  wpList_plain hgd fun K hK => by
    unfold Oper.wp execOp
    simp only [ho, List.map_toArray, List.map_cons, List.map_nil, h0, h1, h2, Sem.run_bind, Sem.run_pure, Result.andThen_ok, hd_build]
    exact hK _ _ h
theorem headC_one (p : Pf) : (headC p).toArray.all (·.oneCell') = true := by simp [headC, Value.oneCell']
theorem headC_put (p : Pf) : spl [.string ByteArray.empty, .int .i64 0, .int .i64 0] 0 (headC p) = headC p := rfl
theorem headC_le (p : Pf) : 0 + (headC p).length ≤ [Value.string ByteArray.empty, .int .i64 0, .int .i64 0].length := Nat.le_refl 3
theorem head_any (p : Pf) (hp : p.full) (A : Option Addr) (c : Nat) (w : World) :
    Calls Tryz.prog 47 #[.agg (p.fd A c).cells.toArray] w fun e w' => e = .returned (.agg (headC p).toArray) ∧ Below w.heap.size w w' := by
  have HK := Lib.hid (KeepF.start (w := w) (rows := []) (by simp))
  have HF := Lib.hid hp; clear hp
  go_enter Tryz.func47, Tryz.ntmps47
  go_wp2_with (first
    | (with_reducible refine box_f HK.out rfl _ rfl rfl ?_; intro b u hk; clear HK; have HK := Lib.hid hk; clear hk)
    | (with_reducible refine alloc_f HK.out hd_zero rfl rfl ?_; intro br u hk; clear HK; have HK := Lib.hid hk; clear hk)
    | (with_reducible refine load_f1 HK.out 1 cbS _ rfl rfl rfl rfl Pf.cn ?_)
    | (with_reducible refine load_f1 HK.out 1 cbI _ rfl rfl rfl rfl Pf.ck ?_)
    | (with_reducible refine load_f1 HK.out 1 cbI _ rfl rfl rfl rfl Pf.ce ?_)
    | (with_reducible refine build_hd (p := p) rfl _ _ _ rfl rfl rfl rfl ?_)
    | (with_reducible refine store_fr HK.out 0 (hd_info p) (headC_one p) rfl rfl _ _ rfl rfl rfl rfl (headC_le p) (headC_put p) ?_; intro u hk; simp only [List.set_cons_zero] at hk; clear HK; have HK := Lib.hid hk; clear hk))
  exact bodyPost_ret (results_f1 rfl Tryz.underlying96 rfl (hd_info p) _ HK.out 0 rfl rfl) rfl ⟨rfl, HK.out.bel⟩

/-! ### apart. -/
theorem Pf.setH_self (p : Pf) : p.setH p.hs = p := rfl
theorem apart_any (p : Pf) (hp : p.full) (A : Option Addr) (c : Nat) (w : World) (hd : Row w A p.hs.length p.hs) :
    Calls Tryz.prog 101 #[.agg (p.fd A c).cells.toArray] w fun e w' => ∃ A1 c1, e = .returned (.agg (p.fd A1 c1).cells.toArray) ∧ Row w' A1 p.hs.length p.hs ∧ Fresh w.heap.size A1 c1 p.hs ∧ Below w.heap.size w w' := by
  have HK := Lib.hid (KeepF.start (w := w) (rows := [(A, p.hs.length, p.hs)]) (by simpa using hd))
  have HF := Lib.hid hp; clear hp
  go_enter Tryz.func101, Tryz.ntmps101
  go_wp2_with (first
    | (with_reducible refine box_f HK.out rfl _ rfl rfl ?_; intro b u hk; clear HK; have HK := Lib.hid hk; clear hk)
    | (with_reducible refine alloc_f HK.out f_zeroP rfl rfl ?_; intro br u hk; clear HK; have HK := Lib.hid hk; clear hk)
    | (with_reducible refine load_f1 HK.out 1 cbH _ rfl rfl rfl rfl (Pf.cH HF.out) ?_)
    | (with_reducible refine app_f HK.out rfl _ _ rfl rfl rfl (HK.out.rowAt 0 rfl) ?_; intro A1 c1 u hk ho; have HO := Lib.hid (ho.mono HK.out.bel.size); clear ho; clear HK; have HK := Lib.hid hk; clear hk)
    | (with_reducible refine store_f1 HK.out 1 cbH rfl rfl _ _ rfl rfl rfl rfl rfl (Fd.ltH HF.out) (Pf.toH HF.out _ _ _) ?_; intro u hk; simp only [List.set_cons_zero, List.set_cons_succ, Pf.setH_self] at hk; clear HK; have HK := Lib.hid hk; clear hk)
    | (with_reducible refine load_fr HK.out 1 Tryz.underlying33 rfl (Pf.infoF HF.out) _ rfl rfl rfl rfl Pf.all ?_)
    | (with_reducible refine store_fr HK.out 0 (Pf.infoF HF.out) (Fd.one _) rfl rfl _ _ rfl rfl rfl rfl (Fd.leP zP_full HF.out) (Fd.setAllP zP_full HF.out) ?_; intro u hk; simp only [List.set_cons_zero] at hk; clear HK; have HK := Lib.hid hk; clear hk))
  exact bodyPost_ret (results_f1 rfl Tryz.underlying33 rfl (Pf.infoF HF.out) _ HK.out 0 rfl rfl) rfl ⟨A1, c1, rfl, HK.out.rowAt 0 rfl, HO.out, HK.out.bel⟩
end Go.Proofs.YtofngihdnjgmeaaGreat

namespace Go.Proofs.YtofngihdnjgmeaaGreat
set_option maxRecDepth 100000
open Go.ChangeShapes Go.WideShapes Go.ChangeAt Go.RowKit

/-! ### Functions by their number. -/
def fnR (v : Value) : Option (DataW Value × List MemPlace) := some (.held v, [])
theorem fnR_inv {v x : Value} {ps : List MemPlace} (h : fnR v = some (.held x, ps)) : v = x := by
  unfold fnR at h
  injection h with h; injection h with h _; injection h
abbrev ok64W (n : Int) : Prop := (Lit.int .i64 n).wf = true
theorem fm_keyed : Maps.Keyed Tryz.prog 3 := Maps.int_keyed Tryz.underlying3
theorem fm_key {n : Int} (h : ok64W n) : keyOf Tryz.prog 3 (.int .i64 n) = some (.int .i64 n) := Maps.keyOf_int_mk Tryz.underlying3 h
theorem fm_lit (n : Int) : WideAt.IsKeyLit (.int .i64 n) := trivial
theorem fm_zero (w : World) : (zeroValue 79).run Tryz.prog w = .ok .nilFunc w := by kernel_rfl
/-- Block b is the map of these functions by their number; at most n were laid in. -/
def FM (u : World) (b n : Nat) (g : Int → Option Value) : Prop :=
  ∃ D : DataW Value, u.ownsMap Tryz.prog 3 fnR b n D ∧ Maps.IsMap D ∧
    (∀ k v, ok64W k → g k = some v → Maps.has D (.int .i64 k) = true ∧ ∀ z, D.atKey (.int .i64 k) z = .held v) ∧
    ∀ k, ok64W k → g k = none → Maps.has D (.int .i64 k) = false
variable {u u' : World} {b n : Nat} {g : Int → Option Value}
theorem FM.is (h : FM u b n g) : ∃ es c, u.heap[b]? = some (.map es c) := by
  obtain ⟨D, ⟨es, c, hb, _⟩, _⟩ := h
  exact ⟨es, c, hb⟩
theorem FM.turn (h : FM u b n g) (hb : u'.heap[b]? = u.heap[b]?) : FM u' b n g := by
  obtain ⟨D, ⟨es, c, h1, h2, h3, h4⟩, h5⟩ := h
  exact ⟨D, ⟨es, c, hb.trans h1, h2, h3, h4⟩, h5⟩
theorem FM.lt (h : FM u b n g) : b < u.heap.size := by
  obtain ⟨es, c, hb⟩ := h.is
  exact (Array.getElem?_eq_some_iff.1 hb).1
theorem FM.below (h : FM u b n g) (hb : Below u.heap.size u u') : FM u' b n g := h.turn (hb.block b h.lt)
theorem FM.made (u : World) : FM (u.alloc (.map #[] 0)) u.heap.size 0 (fun _ => none) :=
  ⟨.map [], World.ownsMap_made u Tryz.prog 3 fnR, Maps.isMap_empty, fun _ _ _ h => by simp at h, fun _ _ _ => rfl⟩
theorem FM.put (h : FM u b n g) (hn : n < 1000) {k : Int} (hk : ok64W k) (v : Value) :
    ∃ u', (Instr.mapUpdate 81 (.map (some b)) (.int .i64 k) v).run Tryz.prog u = .ok () u' ∧ FM u' b (n + 1) (fun j => if j = k then some v else g j) ∧ u.mapTurned u' b := by
  obtain ⟨D, h1, h2, h3, h4⟩ := h
  obtain ⟨u', hr, hu, ht⟩ := h1.store fm_keyed Tryz.underlying81 (by unfold maxLen; omega) (fm_key hk) (show fnR v = some (.held v, []) from rfl)
  refine ⟨u', hr, ⟨_, hu, h2.put _ _, fun j x hj hx => ?_, fun j hj hx => ?_⟩, ht⟩
  · by_cases e : j = k
    · subst e
      have hx : (if j = j then some v else g j) = some x := hx
      rw [if_pos rfl] at hx
      injection hx with hx
      subst hx
      exact ⟨Maps.has_put_same h2 (fm_lit _) _, fun z => Maps.atKey_put_same h2 (fm_lit _) _ z⟩
    · have hx : (if j = k then some v else g j) = some x := hx
      rw [if_neg e] at hx
      have hne : (Lit.int .i64 j) ≠ .int .i64 k := fun h => by injection h with _ h; exact e h
      obtain ⟨a1, a2⟩ := h3 j x hj hx
      exact ⟨by rw [Maps.has_put_other hne]; exact a1, fun z => by rw [Maps.atKey_put_other hne]; exact a2 z⟩
  · by_cases e : j = k
    · have hx : (if j = k then some v else g j) = none := hx
      rw [if_pos e] at hx; cases hx
    · have hx : (if j = k then some v else g j) = none := hx
      rw [if_neg e] at hx
      have hne : (Lit.int .i64 j) ≠ .int .i64 k := fun h => by injection h with _ h; exact e h
      rw [Maps.has_put_other hne]
      exact h4 j hj hx
theorem FM.hit (h : FM u b n g) {k : Int} (hk : ok64W k) {v : Value} (hv : g k = some v) :
    (Instr.lookup 81 (.map (some b)) (.int .i64 k) true).run Tryz.prog u = .ok (.tuple #[v, .bool true]) u := by
  obtain ⟨D, h1, h2, h3, h4⟩ := h
  obtain ⟨a3, a4⟩ := h3 k v hk hv
  obtain ⟨x, ps, hr, hx⟩ := h1.look_ok fm_keyed Tryz.underlying81 (fm_zero u) (show fnR .nilFunc = some (.held .nilFunc, []) from rfl) (fm_key hk)
  rw [a4] at hx
  rw [hr, a3, fnR_inv hx]
theorem FM.miss (h : FM u b n g) {k : Int} (hk : ok64W k) (hv : g k = none) :
    (Instr.lookup 81 (.map (some b)) (.int .i64 k) true).run Tryz.prog u = .ok (.tuple #[.nilFunc, .bool false]) u := by
  obtain ⟨D, h1, h2, h3, h4⟩ := h
  have a3 := h4 k hk hv
  obtain ⟨x, ps, hr, hx⟩ := h1.look_ok fm_keyed Tryz.underlying81 (fm_zero u) (show fnR .nilFunc = some (.held .nilFunc, []) from rfl) (fm_key hk)
  rw [Maps.atKey_of_not_has a3] at hx
  rw [hr, a3, fnR_inv hx]
theorem FM.at (h : FM u b n g) {k : Int} (hk : ok64W k) {v : Value} (hv : g k = some v) :
    (Instr.lookup 81 (.map (some b)) (.int .i64 k) false).run Tryz.prog u = .ok v u := by
  obtain ⟨D, h1, h2, h3, h4⟩ := h
  obtain ⟨a3, a4⟩ := h3 k v hk hv
  obtain ⟨x, ps, hr, hx⟩ := h1.lookup fm_keyed Tryz.underlying81 (fm_zero u) (show fnR .nilFunc = some (.held .nilFunc, []) from rfl) (fm_key hk)
  rw [a4] at hx
  rw [hr, fnR_inv hx]
theorem FM.none (h : FM u b n g) {k : Int} (hk : ok64W k) (hv : g k = none) :
    (Instr.lookup 81 (.map (some b)) (.int .i64 k) false).run Tryz.prog u = .ok .nilFunc u := by
  obtain ⟨D, h1, h2, h3, h4⟩ := h
  have a3 := h4 k hk hv
  obtain ⟨x, ps, hr, hx⟩ := h1.lookup fm_keyed Tryz.underlying81 (fm_zero u) (show fnR .nilFunc = some (.held .nilFunc, []) from rfl) (fm_key hk)
  rw [Maps.atKey_of_not_has a3] at hx
  rw [hr, fnR_inv hx]
theorem mapTurned_below {a : World} (h : Below a.heap.size a u) (hb : a.heap.size ≤ b) (ht : u.mapTurned u' b) : Below a.heap.size a u' := by
  have hg := ht.grown
  exact ⟨hg.os.trans h.os, hg.tape.trans h.tape, hg.output.trans h.output, Nat.le_trans h.size hg.size, fun k hk => (hg.block k (Nat.lt_of_lt_of_le hk h.size) (fun e => by injection e with e; omega)).trans (h.block k hk)⟩
theorem Cel.turned {q : Nat} {t : TypeId} {cs : List Value} (h : Cel u q t cs) (ht : u.mapTurned u' b) : Cel u' q t cs := by
  have hg := ht.grown
  obtain ⟨es, c, _, _, hm, _⟩ := ht
  have hne : some q ≠ some b := fun e => by
    injection e with e
    unfold Cel at h
    rw [e, hm] at h
    cases h
  exact (hg.block q h.lt hne).trans h

/-! ### wire.sayings. -/
def say1 : Value := .func (.func 75) #[] #[]
def say2 (q : Nat) : Value := .func (.func 76) #[] #[.pointer (some ⟨q, 0, none⟩)]
def say3 : Value := .func (.func 77) #[] #[]
def tbl (q : Nat) (k : Int) : Option Value := if k = 1 then some (say2 q) else if k = 2 then some say1 else if k = 3 then some say3 else none
theorem fn_zero : (Tryz.prog.info? 79).bind (·.zero) = some .nilFunc := by kernel_rfl
section
variable {w : World} {ops : Array Oper} {rest : List Oper} {o : Oper} {a : Act} {Q : Exit → Act → World → Prop}
/-- What sayings has made. -/
structure SY (w : World) (q : Nat) (x : Value) (u : World) : Prop where
  bel : Below w.heap.size w u
  new : w.heap.size ≤ q
  cel : Cel u q 79 [x]
theorem sy_alloc (hb : Below w.heap.size w u) (hgd : o.guard = none) (ho : o.op = .alloc 79)
    (h : ∀ q u', SY w q .nilFunc u' → wpList Tryz.prog ops Q rest (a.put o.dst (.pointer (some ⟨q, 0, none⟩))) u') : wpList Tryz.prog ops Q (o :: rest) a u :=
  wpList_plain hgd fun K hK => by
    have e : (Instr.alloc 79 true (.tuple #[])).run Tryz.prog u = .ok (.pointer (some ⟨u.heap.size, 0, none⟩)) (u.alloc (.cells [Value.nilFunc].toArray 79)) := by
      have hz := fn_zero
      cases hq : Tryz.prog.info? 79 with
      | none => simp [hq] at hz
      | some i =>
        simp only [hq, Option.bind_some] at hz
        simp [Instr.alloc, zeroValue, typeInfo, hq, hz, newVar, newRow, newObj, Value.cells]
        rfl
    unfold Oper.wp execOp
    simp only [ho, Sem.run_bind, Sem.run_pure, Result.andThen_ok, e]
    exact hK _ _ (h _ _ ⟨hb.alloc hb.size _, hb.size, Cel.new u _ _⟩)
theorem sy_store {q : Nat} {x : Value} (hs : SY w q x u) (hgd : o.guard = none) (hd : o.dst = none) (y v : Operand) (ho : o.op = .store 79 y v) (hy : a.eval y = .pointer (some ⟨q, 0, none⟩)) (hv : a.eval v = say1)
    (h : ∀ u', SY w q say1 u' → wpList Tryz.prog ops Q rest a u') : wpList Tryz.prog ops Q (o :: rest) a u :=
  wpList_plain hgd fun K hK => by
    have hc := hs.cel.cell (k := 0) rfl
    have hf := hs.cel.frozen 0
    have e : (Instr.storeAt 79 (.pointer (some ⟨q, 0, none⟩)) say1).run Tryz.prog u = .ok () (u.setCell ⟨q, 0, none⟩ say1) := by
      have e2 : ∀ m, (store ⟨q, 0, none⟩ (.func (.func 75) #[] #[]) m).run Tryz.prog u = stored Tryz.prog u ⟨q, 0, none⟩ (.func (.func 75) #[] #[]) m := fun m => run_store Tryz.prog u _ _ m rfl
      simp [go_sem, hc, hf, e2, stored, say1]
    unfold Oper.wp execOp
    simp only [ho, hy, hv, Sem.run_bind, Sem.run_pure, Result.andThen_ok, e]
    have := hK _ _ (h _ ⟨hs.bel.setCell (p := ⟨q, 0, none⟩) hs.new _, hs.new, hs.cel.setCell 0 say1⟩)
    simpa [hd, Act.put, Oper.upon] using this
theorem sy_load {q : Nat} (hs : SY w q say1 u) (hgd : o.guard = none) (x : Operand) (ho : o.op = .load 79 x) (hx : a.eval x = .pointer (some ⟨q, 0, none⟩))
    (h : wpList Tryz.prog ops Q rest (a.put o.dst say1) u) : wpList Tryz.prog ops Q (o :: rest) a u :=
  wpList_plain hgd fun K hK => by
    have hc := hs.cel.cell (k := 0) rfl
    have e : (Instr.loadAt 79 (.pointer (some ⟨q, 0, none⟩))).run Tryz.prog u = .ok say1 u := by simp [go_sem, hc]
    unfold Oper.wp execOp
    simp only [ho, hx, Sem.run_bind, Sem.run_pure, Result.andThen_ok, e]
    exact hK _ _ h
theorem sy_make {q : Nat} {x : Value} (hs : SY w q x u) (hgd : o.guard = none) (ho : o.op = .makeMap 81 none)
    (h : ∀ b u', SY w q x u' → w.heap.size ≤ b → FM u' b 0 (fun _ => none) → wpList Tryz.prog ops Q rest (a.put o.dst (.map (some b))) u') : wpList Tryz.prog ops Q (o :: rest) a u :=
  wpList_plain hgd fun K hK => by
    have hb : Below u.heap.size u (u.alloc (.map #[] 0)) := (Below.refl _ _).alloc (Nat.le_refl _) _
    have := hK _ _ (h _ _ ⟨hs.bel.trans (hb.mono hs.bel.size), hs.new, hs.cel.below hb hs.cel.lt⟩ hs.bel.size (FM.made u))
    unfold Oper.wp
    simp [execOp, ho, run_makeMap, Result.andThen]
    exact this
theorem sy_put {q b n : Nat} {x : Value} {g : Int → Option Value} (hs : SY w q x u) (hm : FM u b n g) (hw : w.heap.size ≤ b) (hn : n < 1000) (hgd : o.guard = none) (hd : o.dst = none) (m y v : Operand) (ho : o.op = .insert 81 m y v) {k : Int} (hk : ok64W k) {F : Value}
    (em : a.eval m = .map (some b)) (ey : a.eval y = .int .i64 k) (ev : a.eval v = F)
    (h : ∀ u', SY w q x u' → FM u' b (n + 1) (fun j => if j = k then some F else g j) → wpList Tryz.prog ops Q rest a u') : wpList Tryz.prog ops Q (o :: rest) a u :=
  wpList_plain hgd fun K hK => by
    obtain ⟨u', hr, hm', ht⟩ := hm.put hn hk F
    have := hK _ _ (h u' ⟨mapTurned_below hs.bel hw ht, hs.new, hs.cel.turned ht⟩ hm')
    have e : a.put o.dst undef = a := by rw [hd]; rfl
    rw [← e] at this
    unfold Oper.wp
    simp [execOp, ho, em, ey, ev, hr, Result.andThen]
    exact this
end
theorem FM.as {g' : Int → Option Value} (h : FM u b n g) (e : ∀ k, g k = g' k) : FM u b n g' := by rw [← funext e]; exact h
theorem sayings_any (w : World) :
    Calls Tryz.prog 34 #[] w fun e u => ∃ b q, e = .returned (.map (some b)) ∧ FM u b 3 (tbl q) ∧ SY w q say1 u := by
  have hmf : ∀ (fn : Fn) (first cap : Array Value) (w : World), (Instr.makeFunc fn first cap).run Tryz.prog w = .ok (.func fn first cap) w := fun _ _ _ _ => rfl
  have HB := Lib.hid (Below.refl w.heap.size w)
  go_enter Tryz.func34, Tryz.ntmps34
  go_wp2_with (first
    | (with_reducible refine sy_alloc HB.out rfl rfl ?_; intro q u hs; have HS := Lib.hid hs; clear hs)
    | (with_reducible refine sy_store HS.out rfl rfl _ _ rfl rfl rfl ?_; intro u hs; clear HS; have HS := Lib.hid hs; clear hs)
    | (with_reducible refine sy_load HS.out rfl _ rfl rfl ?_)
    | (with_reducible refine sy_make HS.out rfl rfl ?_; intro b u hs hb hm; clear HS; have HS := Lib.hid hs; have HM := Lib.hid hm; have HW := Lib.hid hb; clear hs hm hb)
    | (with_reducible refine sy_put HS.out HM.out HW.out (by decide) rfl rfl _ _ _ rfl (by decide) rfl rfl rfl ?_; intro u hs hm; clear HS HM; have HS := Lib.hid hs; have HM := Lib.hid hm; clear hs hm))
  go_ret
  refine ⟨b, rfl, q, HM.out.as fun k => ?_, HS.out⟩
  by_cases h1 : k = 1
  · subst h1; rfl
  · by_cases h2 : k = 2
    · subst h2; rfl
    · by_cases h3 : k = 3
      · subst h3; rfl
      · simp [tbl, h1, h2, h3]
end Go.Proofs.YtofngihdnjgmeaaGreat

namespace Go.Proofs.YtofngihdnjgmeaaGreat
set_option maxRecDepth 100000
open Go.ChangeShapes Go.WideShapes Go.ChangeAt Go.RowKit

theorem KeepF.cap2 {w u : World} {l : List (Nat × TypeId × List Value)} {rows : List (Option Addr × Nat × List Ho)} {x y : Nat × TypeId × List Value} (hk : KeepF w (x :: y :: l) rows u) {i b : Nat} {t : TypeId} {v : Value} (hi : l[i]? = some (b, t, [v])) : u.cell? ⟨b, 0, none⟩ = some v := hk.cellAt (i + 2) hi rfl
theorem lok {p : Pf} {A : Option Addr} {c : Nat} (hp : p.full) (k : Int) (w : World) (h : Row w A p.hs.length p.hs) :
    Calls Tryz.prog 56 #[.agg (p.fd A c).cells.toArray, .int .i64 k] w fun e w' => e = .returned (.tuple #[.int .i64 (looseP p k), .int .i64 (looseU (p.fd A c) k)]) ∧ Below w.heap.size w w' := loose_any (p.fd A c) hp p.hs k w h
end Go.Proofs.YtofngihdnjgmeaaGreat

namespace Go.Proofs.YtofngihdnjgmeaaGreat
set_option maxRecDepth 100000
open Go.ChangeShapes Go.WideShapes Go.ChangeAt Go.RowKit

theorem reserve_sl (A : Option Addr) (n c : Nat) (hs : List Ho) (k a d : Int) (w : World) (hd : Row w A n hs) :
    Calls Tryz.prog 57 #[.slice A n c, .int .i64 k, .int .i64 a, .int .i64 d] w fun e w' => ∃ A1 c1, e = .returned (.tuple #[.slice A1 (resL hs k a d).length c1, .int .i64 (resN hs k a d), .int .i64 (resE hs k a d)]) ∧ Own w' w.heap.size (.slice A1 (resL hs k a d).length c1) (resL hs k a d) ∧ Below w.heap.size w w' :=
  (reserve_any A n c hs k a d w hd).mono fun e w' ⟨v, h1, h2, h3⟩ => by
    obtain ⟨A1, c1, rfl⟩ := h2.slice
    exact ⟨A1, c1, h1, h2, h3⟩
theorem resL_le (hs : List Ho) (k a d : Int) : (resL hs k a d).length ≤ 1000 := by have := @resL_len hs k a d; omega
theorem KeepF.swap {w u : World} {l : List (Nat × TypeId × List Value)} {rows : List (Option Addr × Nat × List Ho)} {r s : Option Addr × Nat × List Ho} (h : KeepF w l (r :: s :: rows) u) : KeepF w l (r :: rows) u :=
  h.look fun q hq => by
    rcases List.mem_cons.1 hq with rfl | hq
    · exact List.mem_cons_self
    · exact List.mem_cons_of_mem _ (List.mem_cons_of_mem _ hq)
section
variable {w u : World} {l : List (Nat × TypeId × List Value)} {rows : List (Option Addr × Nat × List Ho)} {x : Nat × TypeId × List Value} {b : Nat} {A : Option Addr} {c : Nat}
set_option maxHeartbeats 2000000 in
theorem cl_reserve (p : Pf) (hp : p.full) (k1 : p.k = 1) (k a d : Int) {ck ca cd cm : Nat} (q0 : Nat) (hq0 : l[q0]? = some (ck, 3, [.int .i64 k])) (q1 : Nat) (hq1 : l[q1]? = some (ca, 3, [.int .i64 a])) (q2 : Nat) (hq2 : l[q2]? = some (cd, 3, [.int .i64 d])) (j : Nat) (hj : l[j]? = some (cm, 3, [.int .i64 0])) (n0 : j ≠ q0) (n1 : j ≠ q1) (n2 : j ≠ q2) (hfr : Fresh w.heap.size A c p.hs) (hk : KeepF w (x :: (b, 33, (p.fd A c).cells) :: l) ((A, p.hs.length, p.hs) :: rows) u) :
    Calls Tryz.prog 55 #[.pointer (some ⟨b, 0, none⟩), .pointer (some ⟨ck, 0, none⟩), .pointer (some ⟨ca, 0, none⟩), .pointer (some ⟨cd, 0, none⟩), .pointer (some ⟨cm, 0, none⟩)] u fun e u' => ∃ A2 c2, e = .returned (.int .i64 (resPE p k a d)) ∧ KeepF w (x :: (b, 33, ((p.setH (resPH p k a d)).fd A2 c2).cells) :: l.set j (cm, 3, [.int .i64 (resPN p k a d)])) ((A2, (resPH p k a d).length, resPH p k a d) :: rows) u' ∧ Fresh w.heap.size A2 c2 (resPH p k a d) := by
  have HK := Lib.hid hk; clear hk
  have HF := Lib.hid hp; clear hp
  have HJ := Lib.hid hj
  have HX := Lib.hid hfr; clear hfr
  have hset := fun (z : Int) => (show ∀ q y, j ≠ q → l[q]? = some y → (l.set j (cm, 3, [.int .i64 z]))[q]? = some y from fun q y hn hq => by rw [List.getElem?_set_ne hn]; exact hq)
  have G0 := fun z => Lib.hid (hset z q0 _ n0 hq0)
  have G1 := fun z => Lib.hid (hset z q1 _ n1 hq1)
  have G2 := fun z => Lib.hid (hset z q2 _ n2 hq2)
  have hz0 : l.set j (cm, 3, [.int .i64 0]) = l := by
    apply List.ext_getElem?
    intro q
    rw [List.getElem?_set]
    split
    · rename_i e
      subst e
      rw [hj, if_pos (List.getElem?_eq_some_iff.1 hj).1]
    · rfl
  have HZ := Lib.hid hz0
  clear hset n0 n1 n2 hj hz0
  have Hq0 := Lib.hid hq0; clear hq0
  have Hq1 := Lib.hid hq1; clear hq1
  have Hq2 := Lib.hid hq2; clear hq2
  have hlo := fun w h => lok (A := A) (c := c) HF.out k w h
  have e1 : resPE p k a d = if looseP p k < a then 8 else resE p.hs k a d := by simp [resPE, k1]
  have e2 : resPH p k a d = if looseP p k < a then p.hs else resL p.hs k a d := rfl
  have e3 : resPN p k a d = if looseP p k < a then 0 else resN p.hs k a d := by simp [resPN, k1]
  rw [e1, e2, e3]
  clear e1 e2 e3
  generalize looseP p k = z at hlo ⊢
  generalize looseU (p.fd A c) k = d2 at hlo
  by_cases h1 : z < a
  · rw [if_pos h1, if_pos h1, if_pos h1]
    have d1 : decide (z < a) = true := by simpa using h1
    go_enter Tryz.func55, Tryz.ntmps55
    go_wp2_with (first
      | (with_reducible refine load_there cbI _ rfl (HK.out.cap2 Hq0.out) rfl rfl ?_)
      | (with_reducible refine load_there cbI _ rfl (HK.out.cap2 Hq1.out) rfl rfl ?_)
      | (with_reducible refine load_there cbI _ rfl (HK.out.cap2 Hq2.out) rfl rfl ?_))
    refine Draws.start (S := fun u => KeepF w (x :: (b, 33, (p.fd A c).cells) :: l) ((A, p.hs.length, p.hs) :: rows) u) (n := 10) 10 rfl (by kernel_rfl) ?_
    have hk := HK.out.drew
    clear HK; have HK := Lib.hid hk; clear hk
    have HS := Lib.hid (show (fun u => KeepF w (x :: (b, 33, (p.fd A c).cells) :: l) ((A, p.hs.length, p.hs) :: rows) u) _ from HK.out)
    refine Draws.take 0 (v := ?v74) HS.out rfl (by kernel_rfl) (fun _ _ _ h => h) (Or.inl ⟨rfl, ?h74⟩) ?r74
    case h74 => intro w' hw'; go_simp; (try with_reducible rfl)
    (try simp only [Act.put, List.setIfInBounds_toArray, List.set_cons_zero, List.set_cons_succ])
    refine Draws.take 1 (v := ?v75) HS.out rfl (by kernel_rfl) (fun _ _ _ h => h) (Or.inl ⟨rfl, ?h75⟩) ?r75
    case h75 => intro w' hw'; go_simp; (try with_reducible rfl)
    (try simp only [Act.put, List.setIfInBounds_toArray, List.set_cons_zero, List.set_cons_succ])
    refine Draws.take 2 HS.out rfl (by kernel_rfl) (fun _ _ _ h => h) (yield_fr (fun _ h => h) 1 Tryz.underlying33 rfl (Pf.infoF HF.out) _ rfl rfl rfl rfl Pf.all) ?_
    (try simp only [Act.put, List.setIfInBounds_toArray, List.set_cons_zero, List.set_cons_succ])
    refine Draws.take 3 HS.out rfl (by kernel_rfl) (fun _ _ _ h => h) (yield_c cbI (fun _ h => h.cap2 Hq0.out) _ rfl rfl rfl) ?_
    (try simp only [Act.put, List.setIfInBounds_toArray, List.set_cons_zero, List.set_cons_succ])
    refine Draws.does 4 rfl (by kernel_rfl) rfl (fun K hK => ?_)
    go_simp
    go_at_call 56
    refine (hlo _ (HK.out.rowAt 0 rfl)).mono ?_
    rintro e u ⟨rfl, hb⟩
    (try dsimp only)
    have hk := HK.out.call hb; clear hb; clear HK; have HK := Lib.hid hk; clear hk
    refine hK.out _ _ (fun _ => HK.out) ?_
    clear hK K
    have hs : (fun u => KeepF w (x :: (b, 33, (p.fd A c).cells) :: l) ((A, p.hs.length, p.hs) :: rows) u) u := HK.out
    clear HS
    have HS := Lib.hid hs; clear hs
    (try simp only [Act.put, List.setIfInBounds_toArray, List.set_cons_zero, List.set_cons_succ])
    refine Draws.take 5 (v := ?v76) HS.out rfl (by kernel_rfl) (fun _ _ _ h => h) (Or.inl ⟨rfl, ?h76⟩) ?r76
    case h76 => intro w' hw'; go_simp; (try with_reducible rfl)
    (try simp only [Act.put, List.setIfInBounds_toArray, List.set_cons_zero, List.set_cons_succ])
    refine Draws.take 6 (v := ?v77) HS.out rfl (by kernel_rfl) (fun _ _ _ h => h) (Or.inl ⟨rfl, ?h77⟩) ?r77
    case h77 => intro w' hw'; go_simp; (try with_reducible rfl)
    (try simp only [Act.put, List.setIfInBounds_toArray, List.set_cons_zero, List.set_cons_succ])
    refine Draws.take 7 (v := ?v78) HS.out rfl (by kernel_rfl) (fun _ _ _ h => h) (Or.inl ⟨rfl, ?h78⟩) ?r78
    case h78 => intro w' hw'; go_simp; (try with_reducible rfl)
    (try simp only [Act.put, List.setIfInBounds_toArray, List.set_cons_zero, List.set_cons_succ])
    refine Draws.take 8 (v := ?v79) HS.out rfl (by kernel_rfl) (fun _ _ _ h => h) (Or.inl ⟨rfl, ?h79⟩) ?r79
    case h79 => intro w' hw'; go_simp; (try with_reducible rfl)
    (try simp only [Act.put, List.setIfInBounds_toArray, List.set_cons_zero, List.set_cons_succ])
    refine Draws.take 9 (v := ?v80) HS.out rfl (by kernel_rfl) (fun _ _ _ h => h) (Or.inl ⟨rfl, ?h80⟩) ?r80
    case h80 => intro w' hw'; go_simp; (try with_reducible rfl)
    (try simp only [Act.put, List.setIfInBounds_toArray, List.set_cons_zero, List.set_cons_succ])
    refine Draws.done (by kernel_rfl) ?_
    clear HS
    go_wp2_with (first
      | (with_reducible refine load_there cbI _ rfl (HK.out.cap2 Hq0.out) rfl rfl ?_)
      | (with_reducible refine load_there cbI _ rfl (HK.out.cap2 Hq1.out) rfl rfl ?_)
      | (with_reducible refine load_there cbI _ rfl (HK.out.cap2 Hq2.out) rfl rfl ?_))
    go_ret
    exact ⟨A, c, rfl, by rw [Pf.setH_self, HZ.out]; exact HK.out, HX.out⟩
  · rw [if_neg h1, if_neg h1, if_neg h1]
    have d1 : decide (z < a) = false := by simpa using h1
    have HLE := Lib.hid (resL_le p.hs k a d)
    have hcl := fun w h => reserve_sl A p.hs.length c p.hs k a d w h
    generalize resL p.hs k a d = R at hcl HLE ⊢
    generalize resE p.hs k a d = E at hcl ⊢
    generalize resN p.hs k a d = N at hcl ⊢
    go_enter Tryz.func55, Tryz.ntmps55
    go_wp2_with (first
      | (with_reducible refine load_there cbI _ rfl (HK.out.cap2 Hq0.out) rfl rfl ?_)
      | (with_reducible refine load_there cbI _ rfl (HK.out.cap2 Hq1.out) rfl rfl ?_)
      | (with_reducible refine load_there cbI _ rfl (HK.out.cap2 Hq2.out) rfl rfl ?_))
    refine Draws.start (S := fun u => KeepF w (x :: (b, 33, (p.fd A c).cells) :: l) ((A, p.hs.length, p.hs) :: rows) u) (n := 10) 10 rfl (by kernel_rfl) ?_
    have hk := HK.out.drew
    clear HK; have HK := Lib.hid hk; clear hk
    have HS := Lib.hid (show (fun u => KeepF w (x :: (b, 33, (p.fd A c).cells) :: l) ((A, p.hs.length, p.hs) :: rows) u) _ from HK.out)
    refine Draws.take 0 (v := ?v81) HS.out rfl (by kernel_rfl) (fun _ _ _ h => h) (Or.inl ⟨rfl, ?h81⟩) ?r81
    case h81 => intro w' hw'; go_simp; (try with_reducible rfl)
    (try simp only [Act.put, List.setIfInBounds_toArray, List.set_cons_zero, List.set_cons_succ])
    refine Draws.take 1 (v := ?v82) HS.out rfl (by kernel_rfl) (fun _ _ _ h => h) (Or.inl ⟨rfl, ?h82⟩) ?r82
    case h82 => intro w' hw'; go_simp; (try with_reducible rfl)
    (try simp only [Act.put, List.setIfInBounds_toArray, List.set_cons_zero, List.set_cons_succ])
    refine Draws.take 2 HS.out rfl (by kernel_rfl) (fun _ _ _ h => h) (yield_fr (fun _ h => h) 1 Tryz.underlying33 rfl (Pf.infoF HF.out) _ rfl rfl rfl rfl Pf.all) ?_
    (try simp only [Act.put, List.setIfInBounds_toArray, List.set_cons_zero, List.set_cons_succ])
    refine Draws.take 3 HS.out rfl (by kernel_rfl) (fun _ _ _ h => h) (yield_c cbI (fun _ h => h.cap2 Hq0.out) _ rfl rfl rfl) ?_
    (try simp only [Act.put, List.setIfInBounds_toArray, List.set_cons_zero, List.set_cons_succ])
    refine Draws.does 4 rfl (by kernel_rfl) rfl (fun K hK => ?_)
    go_simp
    go_at_call 56
    refine (hlo _ (HK.out.rowAt 0 rfl)).mono ?_
    rintro e u ⟨rfl, hb⟩
    (try dsimp only)
    have hk := HK.out.call hb; clear hb; clear HK; have HK := Lib.hid hk; clear hk
    refine hK.out _ _ (fun _ => HK.out) ?_
    clear hK K
    have hs : (fun u => KeepF w (x :: (b, 33, (p.fd A c).cells) :: l) ((A, p.hs.length, p.hs) :: rows) u) u := HK.out
    clear HS
    have HS := Lib.hid hs; clear hs
    (try simp only [Act.put, List.setIfInBounds_toArray, List.set_cons_zero, List.set_cons_succ])
    refine Draws.take 5 (v := ?v83) HS.out rfl (by kernel_rfl) (fun _ _ _ h => h) (Or.inl ⟨rfl, ?h83⟩) ?r83
    case h83 => intro w' hw'; go_simp; (try with_reducible rfl)
    (try simp only [Act.put, List.setIfInBounds_toArray, List.set_cons_zero, List.set_cons_succ])
    refine Draws.take 6 (v := ?v84) HS.out rfl (by kernel_rfl) (fun _ _ _ h => h) (Or.inl ⟨rfl, ?h84⟩) ?r84
    case h84 => intro w' hw'; go_simp; (try with_reducible rfl)
    (try simp only [Act.put, List.setIfInBounds_toArray, List.set_cons_zero, List.set_cons_succ])
    refine Draws.take 7 (v := ?v85) HS.out rfl (by kernel_rfl) (fun _ _ _ h => h) (Or.inl ⟨rfl, ?h85⟩) ?r85
    case h85 => intro w' hw'; go_simp; (try with_reducible rfl)
    (try simp only [Act.put, List.setIfInBounds_toArray, List.set_cons_zero, List.set_cons_succ])
    refine Draws.take 8 (v := ?v86) HS.out rfl (by kernel_rfl) (fun _ _ _ h => h) (Or.inl ⟨rfl, ?h86⟩) ?r86
    case h86 => intro w' hw'; go_simp; (try with_reducible rfl)
    (try simp only [Act.put, List.setIfInBounds_toArray, List.set_cons_zero, List.set_cons_succ])
    refine Draws.take 9 (v := ?v87) HS.out rfl (by kernel_rfl) (fun _ _ _ h => h) (Or.inl ⟨rfl, ?h87⟩) ?r87
    case h87 => intro w' hw'; go_simp; (try with_reducible rfl)
    (try simp only [Act.put, List.setIfInBounds_toArray, List.set_cons_zero, List.set_cons_succ])
    refine Draws.done (by kernel_rfl) ?_
    clear HS
    go_wp2_with (first
      | (with_reducible refine load_there cbI _ rfl (HK.out.cap2 Hq0.out) rfl rfl ?_)
      | (with_reducible refine load_there cbI _ rfl (HK.out.cap2 Hq1.out) rfl rfl ?_)
      | (with_reducible refine load_there cbI _ rfl (HK.out.cap2 Hq2.out) rfl rfl ?_))
    refine Draws.start (S := fun u : World => u.cell? ⟨ck, 0, none⟩ = some (.int .i64 k) ∧ u.cell? ⟨ca, 0, none⟩ = some (.int .i64 a) ∧ u.cell? ⟨cd, 0, none⟩ = some (.int .i64 d)) (n := 17) 18 rfl (by kernel_rfl) ?_
    have hk := HK.out.drew
    clear HK; have HK := Lib.hid hk; clear hk
    have HS := Lib.hid (show (fun u : World => u.cell? ⟨ck, 0, none⟩ = some (.int .i64 k) ∧ u.cell? ⟨ca, 0, none⟩ = some (.int .i64 a) ∧ u.cell? ⟨cd, 0, none⟩ = some (.int .i64 d)) _ from ⟨HK.out.cap2 Hq0.out, HK.out.cap2 Hq1.out, HK.out.cap2 Hq2.out⟩)
    refine Draws.take 0 (v := ?v88) HS.out rfl (by kernel_rfl) (fun _ _ _ h => h) (Or.inl ⟨rfl, ?h88⟩) ?r88
    case h88 => intro w' hw'; go_simp; (try with_reducible rfl)
    (try simp only [Act.put, List.setIfInBounds_toArray, List.set_cons_zero, List.set_cons_succ])
    refine Draws.take 1 (v := ?v89) HS.out rfl (by kernel_rfl) (fun _ _ _ h => h) (Or.inl ⟨rfl, ?h89⟩) ?r89
    case h89 => intro w' hw'; go_simp; (try with_reducible rfl)
    (try simp only [Act.put, List.setIfInBounds_toArray, List.set_cons_zero, List.set_cons_succ])
    refine Draws.take 2 (v := ?v90) HS.out rfl (by kernel_rfl) (fun _ _ _ h => h) (Or.inl ⟨rfl, ?h90⟩) ?r90
    case h90 => intro w' hw'; go_simp; (try with_reducible rfl)
    (try simp only [Act.put, List.setIfInBounds_toArray, List.set_cons_zero, List.set_cons_succ])
    refine Draws.take 3 (v := ?v91) HS.out rfl (by kernel_rfl) (fun _ _ _ h => h) (Or.inl ⟨rfl, ?h91⟩) ?r91
    case h91 => intro w' hw'; go_simp; (try with_reducible rfl)
    (try simp only [Act.put, List.setIfInBounds_toArray, List.set_cons_zero, List.set_cons_succ])
    refine Draws.take 5 HS.out rfl (by kernel_rfl) (fun _ _ _ h => h) (yield_c cbI (fun _ h => h.1) _ rfl rfl rfl) ?_
    (try simp only [Act.put, List.setIfInBounds_toArray, List.set_cons_zero, List.set_cons_succ])
    refine Draws.take 6 HS.out rfl (by kernel_rfl) (fun _ _ _ h => h) (yield_c cbI (fun _ h => h.2.1) _ rfl rfl rfl) ?_
    (try simp only [Act.put, List.setIfInBounds_toArray, List.set_cons_zero, List.set_cons_succ])
    refine Draws.take 7 HS.out rfl (by kernel_rfl) (fun _ _ _ h => h) (yield_c cbI (fun _ h => h.2.2) _ rfl rfl rfl) ?_
    (try simp only [Act.put, List.setIfInBounds_toArray, List.set_cons_zero, List.set_cons_succ])
    refine Draws.does 4 rfl (by kernel_rfl) rfl (fun K hK => ?_)
    refine wp_load_f1 cbH _ rfl rfl (HK.out.cellAt 1 rfl (Pf.cH HF.out)) ?_
    refine hK.out _ _ (fun _ => HS.out) ?_
    clear hK K
    (try simp only [Act.put, List.setIfInBounds_toArray, List.set_cons_zero, List.set_cons_succ])
    refine Draws.does 8 rfl (by kernel_rfl) rfl (fun K hK => ?_)
    go_simp
    go_at_call 57
    refine (hcl _ (HK.out.rowAt 0 rfl)).mono ?_
    rintro e u ⟨A2, c2, rfl, ho, hb⟩
    (try dsimp only)
    have HFR := Lib.hid ((Fresh.own ho).mono HK.out.bel.size); have hk := (HK.out.own hb ho (HLE.out)).swap; clear ho hb; clear HK; have HK := Lib.hid hk; clear hk
    refine hK.out _ _ (fun _ => ⟨HK.out.cap2 Hq0.out, HK.out.cap2 Hq1.out, HK.out.cap2 Hq2.out⟩) ?_
    clear hK K
    have hs : (fun u : World => u.cell? ⟨ck, 0, none⟩ = some (.int .i64 k) ∧ u.cell? ⟨ca, 0, none⟩ = some (.int .i64 a) ∧ u.cell? ⟨cd, 0, none⟩ = some (.int .i64 d)) u := ⟨HK.out.cap2 Hq0.out, HK.out.cap2 Hq1.out, HK.out.cap2 Hq2.out⟩
    clear HS
    have HS := Lib.hid hs; clear hs
    (try simp only [Act.put, List.setIfInBounds_toArray, List.set_cons_zero, List.set_cons_succ])
    refine Draws.take 9 (v := ?v92) HS.out rfl (by kernel_rfl) (fun _ _ _ h => h) (Or.inl ⟨rfl, ?h92⟩) ?r92
    case h92 => intro w' hw'; go_simp; (try with_reducible rfl)
    (try simp only [Act.put, List.setIfInBounds_toArray, List.set_cons_zero, List.set_cons_succ])
    refine Draws.take 10 (v := ?v93) HS.out rfl (by kernel_rfl) (fun _ _ _ h => h) (Or.inl ⟨rfl, ?h93⟩) ?r93
    case h93 => intro w' hw'; go_simp; (try with_reducible rfl)
    (try simp only [Act.put, List.setIfInBounds_toArray, List.set_cons_zero, List.set_cons_succ])
    refine Draws.take 11 (v := ?v94) HS.out rfl (by kernel_rfl) (fun _ _ _ h => h) (Or.inl ⟨rfl, ?h94⟩) ?r94
    case h94 => intro w' hw'; go_simp; (try with_reducible rfl)
    (try simp only [Act.put, List.setIfInBounds_toArray, List.set_cons_zero, List.set_cons_succ])
    refine Draws.take 12 (v := ?v95) HS.out rfl (by kernel_rfl) (fun _ _ _ h => h) (Or.inl ⟨rfl, ?h95⟩) ?r95
    case h95 => intro w' hw'; go_simp; (try with_reducible rfl)
    (try simp only [Act.put, List.setIfInBounds_toArray, List.set_cons_zero, List.set_cons_succ])
    refine Draws.take 13 (v := ?v96) HS.out rfl (by kernel_rfl) (fun _ _ _ h => h) (Or.inl ⟨rfl, ?h96⟩) ?r96
    case h96 => intro w' hw'; go_simp; (try with_reducible rfl)
    (try simp only [Act.put, List.setIfInBounds_toArray, List.set_cons_zero, List.set_cons_succ])
    refine Draws.take 14 (v := ?v97) HS.out rfl (by kernel_rfl) (fun _ _ _ h => h) (Or.inl ⟨rfl, ?h97⟩) ?r97
    case h97 => intro w' hw'; go_simp; (try with_reducible rfl)
    (try simp only [Act.put, List.setIfInBounds_toArray, List.set_cons_zero, List.set_cons_succ])
    refine Draws.does 15 rfl (by kernel_rfl) rfl (fun K hK => ?_)
    refine wp_store_f1 HK.out 1 cbH rfl _ _ rfl rfl rfl rfl rfl (Fd.ltH HF.out) (Pf.toH HF.out _ _ _) ?_
    intro u hk he; clear he; simp only [List.set_cons_zero, List.set_cons_succ] at hk; clear HK; have HK := Lib.hid hk; clear hk
    refine hK.out _ _ (fun _ => ⟨HK.out.cap2 Hq0.out, HK.out.cap2 Hq1.out, HK.out.cap2 Hq2.out⟩) ?_
    clear hK K
    have hs : (fun u : World => u.cell? ⟨ck, 0, none⟩ = some (.int .i64 k) ∧ u.cell? ⟨ca, 0, none⟩ = some (.int .i64 a) ∧ u.cell? ⟨cd, 0, none⟩ = some (.int .i64 d)) u := ⟨HK.out.cap2 Hq0.out, HK.out.cap2 Hq1.out, HK.out.cap2 Hq2.out⟩
    clear HS
    have HS := Lib.hid hs; clear hs
    (try simp only [Act.put, List.setIfInBounds_toArray, List.set_cons_zero, List.set_cons_succ])
    refine Draws.does 16 rfl (by kernel_rfl) rfl (fun K hK => ?_)
    refine wp_store_f1 HK.out (j + 2) cbI rfl _ _ rfl HJ.out rfl rfl rfl (by decide) rfl ?_
    intro u hk he; clear he; simp only [List.set_cons_zero, List.set_cons_succ] at hk; clear HK Hq0 Hq1 Hq2; have HK := Lib.hid hk; have Hq0 := G0 N; have Hq1 := G1 N; have Hq2 := G2 N; clear hk
    refine hK.out _ _ (fun _ => ⟨HK.out.cap2 Hq0.out, HK.out.cap2 Hq1.out, HK.out.cap2 Hq2.out⟩) ?_
    clear hK K
    have hs : (fun u : World => u.cell? ⟨ck, 0, none⟩ = some (.int .i64 k) ∧ u.cell? ⟨ca, 0, none⟩ = some (.int .i64 a) ∧ u.cell? ⟨cd, 0, none⟩ = some (.int .i64 d)) u := ⟨HK.out.cap2 Hq0.out, HK.out.cap2 Hq1.out, HK.out.cap2 Hq2.out⟩
    clear HS
    have HS := Lib.hid hs; clear hs
    (try simp only [Act.put, List.setIfInBounds_toArray, List.set_cons_zero, List.set_cons_succ])
    refine Draws.does 17 rfl (by kernel_rfl) rfl (fun K hK => ?_)
    go_simp
    refine hK.out _ _ (fun h => absurd h (by decide)) ?_
    clear hK K
    (try simp only [Act.put, List.setIfInBounds_toArray, List.set_cons_zero, List.set_cons_succ])
    refine Draws.done (by kernel_rfl) ?_
    clear HS
    go_wp2
    go_ret
    exact ⟨A2, c2, rfl, HK.out, HFR.out⟩
end
end Go.Proofs.YtofngihdnjgmeaaGreat

namespace Go.Proofs.YtofngihdnjgmeaaGreat
set_option maxRecDepth 100000
open Go.ChangeShapes Go.WideShapes Go.ChangeAt Go.RowKit

section
variable {w u u' : World} {l : List (Nat × TypeId × List Value)} {rows : List (Option Addr × Nat × List Ho)}
theorem KeepF.fresh (h : KeepF w l rows u) (hb : Below u.heap.size u u') {A : Option Addr} {c : Nat} {hs : List Ho} (hr : Row u' A hs.length hs) (hf : Fresh u.heap.size A c hs) : KeepF w l ((A, hs.length, hs) :: rows) u' := by
  have h1 := h.call hb
  refine ⟨h1.bel, h1.blk, h1.apart, fun r hq => ?_, fun r hq x hx a ha hn => ?_⟩
  · rcases List.mem_cons.1 hq with rfl | hq
    · exact hr
    · exact h1.row r hq
  · rcases List.mem_cons.1 hq with rfl | hq
    · have h2 := hf.new a ha hn
      have := (h.blk x hx).2.lt
      omega
    · exact h1.free r hq x hx a ha hn
theorem KeepF.rnil (h : KeepF w l rows u) (A : Option Addr) : KeepF w l ((A, 0, []) :: rows) u := by
  refine ⟨h.bel, h.blk, h.apart, fun r hq => ?_, fun r hq x hx a ha hn => ?_⟩
  · rcases List.mem_cons.1 hq with rfl | hq
    · exact Row.nil u A
    · exact h.row r hq
  · rcases List.mem_cons.1 hq with rfl | hq
    · exact absurd hn (by simp)
    · exact h.free r hq x hx a ha hn
theorem KeepF.rtail {r : Option Addr × Nat × List Ho} (h : KeepF w l (r :: rows) u) : KeepF w l rows u := h.look fun _ hq => List.mem_cons_of_mem _ hq
end
set_option maxHeartbeats 2000000 in
theorem ch_reserve (p : Pf) (hp : p.full) (k a d : Int) {w u : World} {l : List (Nat × TypeId × List Value)} {rows : List (Option Addr × Nat × List Ho)} {A : Option Addr} {c : Nat} {ck ca cd cm : Nat} (q0 : Nat) (hq0 : l[q0]? = some (ck, 3, [.int .i64 k])) (q1 : Nat) (hq1 : l[q1]? = some (ca, 3, [.int .i64 a])) (q2 : Nat) (hq2 : l[q2]? = some (cd, 3, [.int .i64 d])) (j : Nat) (hj : l[j]? = some (cm, 3, [.int .i64 0])) (n0 : j ≠ q0) (n1 : j ≠ q1) (n2 : j ≠ q2) (m : Nat) (hm : rows[m]? = some (A, p.hs.length, p.hs)) (hk : KeepF w l rows u) :
    Calls Tryz.prog 54 #[.agg (p.fd A c).cells.toArray, .int .i64 1, .func (Fn.func 55) #[] #[.pointer (some ⟨ck, 0, none⟩), .pointer (some ⟨ca, 0, none⟩), .pointer (some ⟨cd, 0, none⟩), .pointer (some ⟨cm, 0, none⟩)]] u fun e u' => ∃ A1 c1, e = .returned (.tuple #[.agg ((toldP (p.setH (resPH p k a d)) (resPE p k a d)).fd A1 c1).cells.toArray, .int .i64 (resPE p k a d)]) ∧ KeepF w (l.set j (cm, 3, [.int .i64 (resPN p k a d)])) ((A1, (toldP (p.setH (resPH p k a d)) (resPE p k a d)).hs.length, (toldP (p.setH (resPH p k a d)) (resPE p k a d)).hs) :: rows) u' ∧ Fresh w.heap.size A1 c1 (toldP (p.setH (resPH p k a d)) (resPE p k a d)).hs := by
  have HK := Lib.hid hk; clear hk
  have HF := Lib.hid hp; clear hp
  have HM := Lib.hid hm; clear hm
  by_cases k1 : p.k = 1
  · have hkc : (p.fd A c).cells[1]? = some (.int .i64 1) := by rw [Pf.ck, k1]
    have hcl := fun {x : Nat × TypeId × List Value} {u : World} {b : Nat} {A : Option Addr} {c : Nat} (hf : Fresh w.heap.size A c p.hs) (hk : KeepF w (x :: (b, 33, (p.fd A c).cells) :: l) ((A, p.hs.length, p.hs) :: rows) u) => show Calls Tryz.prog 55 #[.pointer (some ⟨b, 0, none⟩), .pointer (some ⟨ck, 0, none⟩), .pointer (some ⟨ca, 0, none⟩), .pointer (some ⟨cd, 0, none⟩), .pointer (some ⟨cm, 0, none⟩)] u fun e u' => ∃ A2 c2, e = .returned (.int .i64 (resPE p k a d)) ∧ KeepF w (x :: (b, 33, ((p.setH (resPH p k a d)).fd A2 c2).cells) :: (l.set j (cm, 3, [.int .i64 (resPN p k a d)]))) ((A2, (p.setH (resPH p k a d)).hs.length, (p.setH (resPH p k a d)).hs) :: rows) u' ∧ Fresh w.heap.size A2 c2 (p.setH (resPH p k a d)).hs from cl_reserve p HF.out k1 k a d q0 hq0 q1 hq1 q2 hq2 j hj n0 n1 n2 hf hk
    have HP := Lib.hid (show (p.setH (resPH p k a d)).full from HF.out)
    generalize resPN p k a d = N at hcl ⊢
    generalize resPE p k a d = E at hcl ⊢
    generalize (p.setH (resPH p k a d)) = P1 at hcl HP ⊢
    by_cases h0 : E = 0
    · subst h0
      rw [toldP_0]
      go_enter Tryz.func54, Tryz.ntmps54
      go_wp2_with (first
        | (with_reducible refine box_f HK.out rfl _ rfl rfl ?_; intro b u hk; clear HK; have HK := Lib.hid hk; clear hk)
        | (with_reducible refine alloc_f HK.out f_zeroP rfl rfl ?_; intro br u hk; clear HK; have HK := Lib.hid hk; clear hk)
        | (with_reducible refine load_f1 HK.out 1 cbI _ rfl rfl rfl rfl hkc ?_)
        | (with_reducible refine load_fr HK.out 1 Tryz.underlying33 rfl (Pf.infoF HF.out) _ rfl rfl rfl rfl Pf.all ?_)
        | (go_at_call 101; (with_reducible refine (apart_any p HF.out A c _ (HK.out.rowAt m HM.out)).mono ?_); rintro e u ⟨A1, c1, rfl, hr, hf, hb⟩; have HX := Lib.hid (hf.mono HK.out.bel.size); have hk := HK.out.fresh hb hr hf; clear hr hf hb; clear HK; have HK := Lib.hid hk; clear hk)
        | (with_reducible refine store_fr HK.out 1 (Pf.infoF HF.out) (Fd.one _) rfl rfl _ _ rfl rfl rfl rfl (Fd.leP HF.out HF.out) (Fd.setAllP HF.out HF.out) ?_; intro u hk; simp only [List.set_cons_zero, List.set_cons_succ] at hk; clear HK; have HK := Lib.hid hk; clear hk)
        | (go_at_call 55; (with_reducible refine (hcl HX.out HK.out).mono ?_); rintro e u ⟨A2, c2, rfl, hk, hf⟩; have HY := Lib.hid hf; clear hf; clear HK; have HK := Lib.hid hk; clear hk)
        | (with_reducible refine load_fr HK.out 1 Tryz.underlying33 rfl (Pf.infoF HP.out) _ rfl rfl rfl rfl Pf.all ?_)
        | (with_reducible refine store_fr HK.out 0 (Pf.infoF HP.out) (Fd.one _) rfl rfl _ _ rfl rfl rfl rfl (Fd.leP zP_full HP.out) (Fd.setAllP zP_full HP.out) ?_; intro u hk; simp only [List.set_cons_zero] at hk; clear HK; have HK := Lib.hid hk; clear hk))
      exact bodyPost_ret (results_f2 rfl Tryz.underlying33 rfl (Pf.infoF HP.out) _ HK.out 0 _ rfl rfl rfl) rfl ⟨A2, c2, rfl, HK.out.tail.tail, HY.out⟩
    · rw [toldP_n _ h0]
      have d0 : (E != 0) = true := by simpa using h0
      go_enter Tryz.func54, Tryz.ntmps54
      go_wp2_with (first
        | (with_reducible refine box_f HK.out rfl _ rfl rfl ?_; intro b u hk; clear HK; have HK := Lib.hid hk; clear hk)
        | (with_reducible refine alloc_f HK.out f_zeroP rfl rfl ?_; intro br u hk; clear HK; have HK := Lib.hid hk; clear hk)
        | (with_reducible refine load_f1 HK.out 1 cbI _ rfl rfl rfl rfl hkc ?_)
        | (with_reducible refine load_fr HK.out 1 Tryz.underlying33 rfl (Pf.infoF HF.out) _ rfl rfl rfl rfl Pf.all ?_)
        | (go_at_call 101; (with_reducible refine (apart_any p HF.out A c _ (HK.out.rowAt m HM.out)).mono ?_); rintro e u ⟨A1, c1, rfl, hr, hf, hb⟩; have HX := Lib.hid (hf.mono HK.out.bel.size); have hk := HK.out.fresh hb hr hf; clear hr hf hb; clear HK; have HK := Lib.hid hk; clear hk)
        | (with_reducible refine store_fr HK.out 1 (Pf.infoF HF.out) (Fd.one _) rfl rfl _ _ rfl rfl rfl rfl (Fd.leP HF.out HF.out) (Fd.setAllP HF.out HF.out) ?_; intro u hk; simp only [List.set_cons_zero, List.set_cons_succ] at hk; clear HK; have HK := Lib.hid hk; clear hk)
        | (go_at_call 55; (with_reducible refine (hcl HX.out HK.out).mono ?_); rintro e u ⟨A2, c2, rfl, hk, hf⟩; have HY := Lib.hid hf; clear hf; clear HK; have HK := Lib.hid hk; clear hk)
        | (with_reducible refine build_f f_buildP rfl rfl ?_)
        | (with_reducible refine store_fr HK.out 0 (Pf.infoF zP_full) (Fd.one _) rfl rfl _ _ rfl rfl rfl rfl (Fd.leP zP_full zP_full) (Fd.setAllP zP_full zP_full) ?_; intro u hk; simp only [List.set_cons_zero] at hk; clear HK; have HK := Lib.hid hk; clear hk))
      exact bodyPost_ret (results_f2 rfl Tryz.underlying33 rfl (Pf.infoF zP_full) _ HK.out 0 _ rfl rfl rfl) rfl ⟨none, 0, rfl, HK.out.tail.tail.rtail.rnil _, Fresh.nil _ _ _⟩
  · have hz0 : l.set j (cm, 3, [.int .i64 0]) = l := by
      apply List.ext_getElem?
      intro q
      rw [List.getElem?_set]
      split
      · rename_i e
        subst e
        rw [hj, if_pos (List.getElem?_eq_some_iff.1 hj).1]
      · rfl
    rw [show resPE p k a d = 17 by unfold resPE; rw [if_neg k1], show resPN p k a d = 0 by unfold resPN; rw [if_neg k1], hz0]
    clear hz0
    rw [toldP_n _ (by decide)]
    have hkc : (p.fd A c).cells[1]? = some (.int .i64 p.k) := Pf.ck
    generalize p.k = K at k1 hkc
    go_enter Tryz.func54, Tryz.ntmps54
    go_wp2_with (first
      | (with_reducible refine box_f HK.out rfl _ rfl rfl ?_; intro b u hk; clear HK; have HK := Lib.hid hk; clear hk)
      | (with_reducible refine alloc_f HK.out f_zeroP rfl rfl ?_; intro br u hk; clear HK; have HK := Lib.hid hk; clear hk)
      | (with_reducible refine load_f1 HK.out 1 cbI _ rfl rfl rfl rfl hkc ?_)
      | (with_reducible refine build_f f_buildP rfl rfl ?_)
      | (with_reducible refine store_fr HK.out 0 (Pf.infoF zP_full) (Fd.one _) rfl rfl _ _ rfl rfl rfl rfl (Fd.leP zP_full zP_full) (Fd.setAllP zP_full zP_full) ?_; intro u hk; simp only [List.set_cons_zero] at hk; clear HK; have HK := Lib.hid hk; clear hk))
    exact bodyPost_ret (results_f2 rfl Tryz.underlying33 rfl (Pf.infoF zP_full) _ HK.out 0 _ rfl rfl rfl) rfl ⟨none, 0, rfl, HK.out.tail.tail.rnil _, Fresh.nil _ _ _⟩
end Go.Proofs.YtofngihdnjgmeaaGreat

namespace Go.Proofs.YtofngihdnjgmeaaGreat
set_option maxRecDepth 100000
open Go.ChangeShapes Go.WideShapes Go.ChangeAt Go.RowKit

theorem hd_fields : (Tryz.prog.fieldsOf 96).toList.map (fun f => (f.type, f.offset, f.name)) = [(9, 0, "name"), (3, 1, "kind"), (3, 2, "epoch")] := by kernel_rfl
theorem hd_under : Tryz.prog.underlying 96 = some (.struct (Tryz.prog.fieldsOf 96)) := by kernel_rfl
theorem eql_hd (p : Pf) (w : World) : (Op.equalIn 10000 96 (.agg (headC p).toArray) (.agg (headC p).toArray)).run Tryz.prog w = .ok true w := by
  have hst := run_equalIn_struct (P := Tryz.prog) w 9999 96 (headC p).toArray (headC p).toArray hd_under (by kernel_rfl)
  have hi : ∀ x : Int, (Op.equalIn 9999 3 (.int .i64 x) (.int .i64 x)).run Tryz.prog w = .ok true w := fun x => by rw [run_equalIn_int w 9998 3 .i64 .i64 x x Tryz.underlying3]; simp
  have hs : ∀ s : ByteArray, (Op.equalIn 9999 9 (.string s) (.string s)).run Tryz.prog w = .ok true w := fun s => by rw [run_equalIn_string w 9998 9 s s Tryz.underlying9]; simp
  have q0 : (part 9 (headC p).toArray 0).run Tryz.prog w = .ok (.string p.nm) w := by simp [part, isAgg, run_underlying Tryz.underlying9, headC]
  have q1 : (part 3 (headC p).toArray 1).run Tryz.prog w = .ok (.int .i64 p.k) w := by simp [part, isAgg, run_underlying Tryz.underlying3, headC]
  have q2 : (part 3 (headC p).toArray 2).run Tryz.prog w = .ok (.int .i64 p.e) w := by simp [part, isAgg, run_underlying Tryz.underlying3, headC]
  obtain ⟨f1, f2, f3, hf, e1, e2, e3⟩ := fields3 hd_fields
  injection e1 with e1a e1; injection e1 with e1b e1c
  injection e2 with e2a e2; injection e2 with e2b e2c
  injection e3 with e3a e3; injection e3 with e3b e3c
  rw [hst, hf, show true = (true && (true && (true && true))) from rfl]
  clear hst hf
  refine eqField (by rw [e1c]; decide) (by rw [e1a, e1b]; exact q0) (by rw [e1a, e1b]; exact q0) (by rw [e1a]; exact hs _) ?_
  refine eqField (by rw [e2c]; decide) (by rw [e2a, e2b]; exact q1) (by rw [e2a, e2b]; exact q1) (by rw [e2a]; exact hi _) ?_
  refine eqField (by rw [e3c]; decide) (by rw [e3a, e3b]; exact q2) (by rw [e3a, e3b]; exact q2) (by rw [e3a]; exact hi _) ?_
  simp [Op.eqFields]
theorem hd_guard : Tryz.prog.eqGuardType Tryz.prog.depth 96 = false := by kernel_rfl
theorem c_same (C : List Int) (hC : C.length = 579) (w : World) : (Op.equalIn 10000 28 (.agg (vals C).toArray) (.agg (vals C).toArray)).run Tryz.prog w = .ok true w := by rw [eql_c C C hC hC w]; simp
theorem l_same (M : Lk) (w : World) : (Op.equalIn 10000 30 (.agg (vals M.l).toArray) (.agg (vals M.l).toArray)).run Tryz.prog w = .ok true w := by rw [eql_lk M M w]; simp
section
variable {ops : Array Oper} {S : World → Prop} {o : Oper} {a : Act} {u : World} {rest : List Oper} {Q : Exit → Act → World → Prop}
/-- What is the same is equal. -/
theorem yield_eqv {ty : TypeId} {xs : List Value} (hge : Tryz.prog.eqGuardType Tryz.prog.depth ty = false) (hq : ∀ W, (Op.equalIn 10000 ty (.agg xs.toArray) (.agg xs.toArray)).run Tryz.prog W = .ok true W) (x y : Operand) (t : TypeId) (ho : o.op = .binOp .eql ty x y t) (hx : a.eval x = .agg xs.toArray) (hy : a.eval y = .agg xs.toArray) (hw : Region.wanted o (yielded ops a.tmps) = true) :
    YieldsIf Tryz.prog ops S o (.bool true) a :=
  .inl ⟨hw, fun w _ => by
    unfold execOp
    simp only [ho, hx, hy]
    simp [go_sem, hq, hge]⟩
end
set_option maxHeartbeats 2000000 in
theorem equal_any (A B : Option Addr) (c d : Nat) (hs : List Ho) (w : World) (h1 : Row w A hs.length hs) (h2 : Row w B hs.length hs) :
    Calls Tryz.prog 59 #[.slice A hs.length c, .slice B hs.length d] w fun e w' => e = .returned (.bool true) ∧ Below w.heap.size w w' := by
  have HD := Lib.hid h1; have HE := Lib.hid h2; clear h1 h2
  have HK := Lib.hid (KeepF.start (w := w) (rows := []) (by simp))
  have HNB := Lib.hid HD.out.2.1
  generalize hn : hs.length = n at HD HE HNB ⊢
  have HL := Lib.hid hn
  go_enter Tryz.func59, Tryz.ntmps59
  go_wp2
  go_loopw [13] (fun i wr => ∃ m : Nat, m ≤ n ∧ i = .int .i64 m ∧ KeepF w [] [] wr) (fun i _ => n - (intOf i).toNat)
  case atStart => exact ⟨0, by omega, rfl, HK.out⟩
  case round =>
    obtain ⟨m, hm, rfl, hk⟩ := hrel
    clear HK; have HK := Lib.hid hk; clear hk
    have hnb := HNB.out
    by_cases hlt : m < n
    · obtain ⟨b1, o1, rfl, hr1⟩ := HD.out.at hlt
      obtain ⟨b2, o2, rfl, hr2⟩ := HE.out.at hlt
      have hm1 := hr1 m hlt
      have hm2 := hr2 m hlt
      clear hr1 hr2
      generalize hs.getD m z5 = h at hm1 hm2
      have HR := Lib.hid hm1; have HC := Lib.hid (range_lt hm1)
      have HR2 := Lib.hid hm2; have HC2 := Lib.hid (range_lt hm2)
      clear hm1 hm2
      have i1 : (0 : Int) ≤ (m : Int) := by omega
      have i2 : (m : Int) < (n : Int) := by omega
      go_wp2
      refine Draws.start (S := fun u => KeepF w [] [] u) (n := 9) 9 rfl (by kernel_rfl) ?_
      have hk := HK.out.drew
      clear HK; have HK := Lib.hid hk; clear hk
      have HS := Lib.hid (show (fun u => KeepF w [] [] u) _ from HK.out)
      refine Draws.take 0 (v := ?v1) HS.out rfl (by kernel_rfl) (fun _ _ _ h => h) (Or.inl ⟨rfl, ?h1⟩) ?r1
      case h1 => intro w' hw'; go_simp; (try with_reducible rfl)
      (try simp only [Act.put, List.setIfInBounds_toArray, List.set_cons_zero, List.set_cons_succ])
      refine Draws.take 1 (v := ?v2) HS.out rfl (by kernel_rfl) (fun _ _ _ h => h) (Or.inl ⟨rfl, ?h2⟩) ?r2
      case h2 => intro w' hw'; go_simp; (try with_reducible rfl)
      (try simp only [Act.put, List.setIfInBounds_toArray, List.set_cons_zero, List.set_cons_succ])
      refine Draws.take 2 (v := ?v3) HS.out rfl (by kernel_rfl) (fun _ _ _ h => h) (Or.inl ⟨rfl, ?h3⟩) ?r3
      case h3 => intro w' hw'; go_simp; (try with_reducible rfl)
      (try simp only [Act.put, List.setIfInBounds_toArray, List.set_cons_zero, List.set_cons_succ])
      refine Draws.take 3 HS.out rfl (by kernel_rfl) (fun _ _ _ h => h) (yield_hold (fun _ h => range_below HR.out h.bel HC.out) _ rfl rfl rfl) ?_
      (try simp only [Act.put, List.setIfInBounds_toArray, List.set_cons_zero, List.set_cons_succ])
      refine Draws.take 4 (v := ?v4) HS.out rfl (by kernel_rfl) (fun _ _ _ h => h) (Or.inl ⟨rfl, ?h4⟩) ?r4
      case h4 => intro w' hw'; go_simp; (try with_reducible rfl)
      (try simp only [Act.put, List.setIfInBounds_toArray, List.set_cons_zero, List.set_cons_succ])
      refine Draws.take 5 (v := ?v5) HS.out rfl (by kernel_rfl) (fun _ _ _ h => h) (Or.inl ⟨rfl, ?h5⟩) ?r5
      case h5 => intro w' hw'; go_simp; (try with_reducible rfl)
      (try simp only [Act.put, List.setIfInBounds_toArray, List.set_cons_zero, List.set_cons_succ])
      refine Draws.take 6 (v := ?v6) HS.out rfl (by kernel_rfl) (fun _ _ _ h => h) (Or.inl ⟨rfl, ?h6⟩) ?r6
      case h6 => intro w' hw'; go_simp; (try with_reducible rfl)
      (try simp only [Act.put, List.setIfInBounds_toArray, List.set_cons_zero, List.set_cons_succ])
      refine Draws.take 7 HS.out rfl (by kernel_rfl) (fun _ _ _ h => h) (yield_hold (fun _ h => range_below HR2.out h.bel HC2.out) _ rfl rfl rfl) ?_
      (try simp only [Act.put, List.setIfInBounds_toArray, List.set_cons_zero, List.set_cons_succ])
      refine Draws.take 8 HS.out rfl (by kernel_rfl) (fun _ _ _ h => h) (yield_neqh (Ho.same _) _ _ _ rfl rfl rfl rfl) ?_
      (try simp only [Act.put, List.setIfInBounds_toArray, List.set_cons_zero, List.set_cons_succ])
      refine Draws.done (by kernel_rfl) ?_
      clear HS
      go_wp2
      go_roundw
      case rel => exact ⟨m + 1, by omega, by go_num, HK.out⟩
      case measure => simp [intOf]; omega
    · obtain rfl : m = n := by omega
      go_wp2
      go_ret
      exact ⟨rfl, HK.out.bel⟩
theorem Pf.cHn {p : Pf} {A : Option Addr} {c n : Nat} (h : p.full) (hn : p.hs.length = n) : (p.fd A c).cells[586]? = some (.slice A n c) := by subst hn; exact Pf.cH h
end Go.Proofs.YtofngihdnjgmeaaGreat
