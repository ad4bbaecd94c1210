/- A map from a hold's name to its place, that the call itself has made; a contract of hold.placesByName.; A contract of hold.Join.; Plain arithmetic of layer 6, on: joining hangs on no order, nor on how often. No program is spoken of here. -/
import Derived.Test.YtofngihdnjgmeaaGreatY01
import Derived.Test.YtofngihdnjgmeaaGreatY03
import Derived.Test.YtofngihdnjgmeaaGreatY07
import Derived.Test.YtofngihdnjgmeaaGreatY09
import Derived.Test.YtofngihdnjgmeaaGreatY10
import Derived.Test.YtofngihdnjgmeaaGreatY12
import Derived.Test.YtofngihdnjgmeaaGreatY14
import Derived.Test.YtofngihdnjgmeaaGreatY18
import Derived.Maps.OwnSet
import Derived.Maps.Views
import Derived.DeepKeys4
import Derived.WalkKit
import Derived.ProofKit
import Derived.Lib.Hide
import Derived.Deep.RegionHeld3
import Derived.Below
import Derived.Deep.MidRow
import Derived.Deep.QuietTactic
import Derived.BigQuiet
import Derived.Laws.StructEq
import Derived.Laws.OwnMore
import Derived.Lib.SliceRun
import Derived.Maps.AppendAt
import Derived.OwnWalk
import Derived.OpenShut
import Derived.ChangeOld
import Derived.Deep.Slices
import Derived.ChangeSlices
import Derived.Laws.AppendOwn
import Derived.Shelf.SlSortCmp.WholeK
import Derived.Shelf.SlSortCmp.NoneTotal
namespace Go.Proofs.YtofngihdnjgmeaaGreat
set_option maxRecDepth 100000
open Go.ChangeShapes Go.WideShapes Go.ChangeAt Go.RowKit

def plR (v : Value) : Option (DataW Unit × List MemPlace) := match v with
  | .int .i64 n => some (.lit (.int .i64 n), [])
  | _ => none
theorem plR_inv {v : Value} {n : Int} {ps : List MemPlace} (h : plR v = some (.lit (.int .i64 n), ps)) : v = .int .i64 n := by
  unfold plR at h
  split at h
  · injection h with h; injection h with h _; injection h with h; injection h with _ h; rw [h]
  · cases h
theorem mp_laid : laidOutB Tryz.prog = true := by kernel_rfl
theorem mp_keyed : Maps.Keyed Tryz.prog 139 :=
  Maps.Keyed.of_law (deep_law_laid mp_laid (m := 3) (by omega) (of_decide_eq_true (by kernel_rfl)) (by kernel_rfl) (by kernel_rfl))
/-- The key's literal. -/
def kl (s v : Int) : Lit := .string (keyBytes [.int .i64 s, .int .i64 v])
def ok64 (n : Int) : Prop := (Lit.int .i64 n).wf = true
theorem ok64_of {n : Int} (h1 : 0 ≤ n) (h2 : n ≤ 1099511627776) : ok64 n := WalkArith.wf_i64 (by omega)
theorem key_under : Tryz.prog.underlying 139 = some (.struct (Tryz.prog.fieldsOf 139)) := by kernel_rfl
theorem key_fields : (Tryz.prog.fieldsOf 139).toList.map (fun f => (f.type, f.offset)) = [(3, 0), (3, 1)] := by kernel_rfl
theorem fields2 {fs : List Field} {x y : TypeId × Nat} (h : fs.map (fun f => (f.type, f.offset)) = [x, y]) : ∃ f g, fs = [f, g] ∧ (f.type, f.offset) = x ∧ (g.type, g.offset) = y := by
  match fs, h with
  | [f, g], h => exact ⟨f, g, rfl, by simpa using h⟩
theorem keyOf_mk {s v : Int} (hs : ok64 s) (hv : ok64 v) : keyOf Tryz.prog 139 (.agg #[.int .i64 s, .int .i64 v]) = some (kl s v) := by
  have h1 : Tryz.prog.keyType 139 = true := by kernel_rfl
  have h2 : (Value.agg #[.int .i64 s, .int .i64 v]).formed Tryz.prog 139 = true := by kernel_rfl
  have h3 : Tryz.prog.keyLits (Tryz.prog.types.size + 1) 139 [.int .i64 s, .int .i64 v] = some [.int .i64 s, .int .i64 v] := by
    have c1 : Tryz.prog.cellsOf 3 = 1 := by kernel_rfl
    have c2 : Tryz.prog.cellsOf 139 = 2 := by kernel_rfl
    obtain ⟨d, hd⟩ : ∃ d, Tryz.prog.types.size + 1 = d + 2 := ⟨Tryz.prog.types.size - 1, by have : 1 ≤ Tryz.prog.types.size := of_decide_eq_true (by kernel_rfl); omega⟩
    rw [hd]
    unfold ok64 at hs hv
    obtain ⟨f1, f2, hf, e1, e2⟩ := fields2 key_fields
    injection e1 with e1a e1b
    injection e2 with e2a e2b
    have hf' : Tryz.prog.fieldsOf 139 = #[f1, f2] := by apply Array.toList_inj.1; rw [hf]
    simp [Program.keyLits, Tryz.underlying3, c1, c2, hs, hv]
  unfold keyOf
  rw [key_under]
  show (if (Tryz.prog.keyType 139 && (Value.agg #[.int .i64 s, .int .i64 v]).formed Tryz.prog 139) = true then (Tryz.prog.keyLits (Tryz.prog.types.size + 1) 139 [.int .i64 s, .int .i64 v]).map (fun ls => Lit.string (keyBytes ls)) else none) = _
  rw [h1, h2, h3]
  rfl
theorem kl_inj {s v s' v' : Int} (h1 : ok64 s) (h2 : ok64 v) (h3 : ok64 s') (h4 : ok64 v') (h : kl s v = kl s' v') : s = s' ∧ v = v' := by
  have e1 := keyOf_mk h1 h2
  have e2 := keyOf_mk h3 h4
  rw [← h] at e2
  have := mp_keyed.inj e1 e2
  injection this with this
  have := congrArg Array.toList this
  simp only [List.cons.injEq, Value.int.injEq, true_and, and_true] at this
  exact this
theorem kl_key (s v : Int) : WideAt.IsKeyLit (kl s v) := trivial
theorem mp_zero (w : World) : (zeroValue 3).run Tryz.prog w = .ok (.int .i64 0) w := by kernel_rfl

/-- Block b is the map of the first m of these holds' names to their places. -/
def PlAt (u : World) (b : Nat) (hs : List Ho) (m : Nat) : Prop :=
  ∃ D : DataW Unit, u.ownsMap Tryz.prog 139 plR b m D ∧ Maps.IsMap D ∧ (∀ j, j < m → Maps.has D (kl (hs.getD j z5).r (hs.getD j z5).n) = true ∧ ∀ z, D.atKey (kl (hs.getD j z5).r (hs.getD j z5).n) z = .lit (.int .i64 (j : Int))) ∧
    ∀ s v, ok64 s → ok64 v → (∀ j, j < m → ¬ ((hs.getD j z5).r = s ∧ (hs.getD j z5).n = v)) → Maps.has D (kl s v) = false
theorem PlAt.is {u : World} {b m : Nat} {hs : List Ho} (h : PlAt u b hs m) : ∃ es c, u.heap[b]? = some (.map es c) := by
  obtain ⟨D, ⟨es, c, hb, _⟩, _⟩ := h
  exact ⟨es, c, hb⟩
theorem PlAt.turn {u u' : World} {b m : Nat} {hs : List Ho} (h : PlAt u b hs m) (hb : u'.heap[b]? = u.heap[b]?) : PlAt u' b hs m := by
  obtain ⟨D, ⟨es, c, h1, h2, h3, h4⟩, h5⟩ := h
  exact ⟨D, ⟨es, c, hb.trans h1, h2, h3, h4⟩, h5⟩
theorem PlAt.lt {u : World} {b m : Nat} {hs : List Ho} (h : PlAt u b hs m) : b < u.heap.size := by
  obtain ⟨es, c, hb⟩ := h.is
  exact (Array.getElem?_eq_some_iff.1 hb).1
theorem PlAt.below {u u' : World} {b m : Nat} {hs : List Ho} (h : PlAt u b hs m) (hb : Below u.heap.size u u') : PlAt u' b hs m := h.turn (hb.block b h.lt)
theorem PlAt.ne {u : World} {b m : Nat} {hs : List Ho} (h : PlAt u b hs m) {g : Nat} {cs : Array Value} {t : TypeId} {fr : Nat × Nat} (hg : u.heap[g]? = some (.cells cs t fr)) : b ≠ g := by
  rintro rfl
  obtain ⟨es, c, hb⟩ := h.is
  rw [hb] at hg
  cases hg
theorem PlAt.store {u u' : World} {b m : Nat} {hs : List Ho} (h : PlAt u b hs m) {g : Nat} {t : TypeId} {R : List Int} (hg : Blk u g t R) (he : ∀ k, k ≠ g → u'.heap[k]? = u.heap[k]?) : PlAt u' b hs m := h.turn (he b (h.ne hg))
theorem PlAt.made (u : World) (hs : List Ho) : PlAt (u.alloc (.map #[] 0)) u.heap.size hs 0 :=
  ⟨.map [], World.ownsMap_made u Tryz.prog 139 plR, Maps.isMap_empty, fun j hj => absurd hj (by omega), fun _ _ _ _ _ => rfl⟩
theorem PlAt.put {u : World} {b m : Nat} {hs : List Ho} (h : PlAt u b hs m) (hm : m < hs.length) (hn : m < 1000) (hr : ∀ x ∈ hs, rightH x = true) (hp : hs.Pairwise AH) :
    ∃ u', (Instr.mapUpdate 135 (.map (some b)) (.agg #[.int .i64 (hs.getD m z5).r, .int .i64 (hs.getD m z5).n]) (.int .i64 (m : Int))).run Tryz.prog u = .ok () u' ∧ PlAt u' b hs (m + 1) ∧ u.mapTurned u' b := by
  obtain ⟨D, h1, h2, h3, h4⟩ := h
  have hok : ∀ j, j < hs.length → ok64 (hs.getD j z5).r ∧ ok64 (hs.getD j z5).n := fun j hj => by
    have := rightH_iff.1 (hr _ (getD_mem hj))
    exact ⟨ok64_of (by omega) (by omega), ok64_of (by omega) (by omega)⟩
  obtain ⟨u', hru, hu, ht⟩ := h1.store mp_keyed Tryz.underlying135 (by unfold maxLen; omega) (keyOf_mk (hok m hm).1 (hok m hm).2) (show plR (.int .i64 (m : Int)) = some (.lit (.int .i64 (m : Int)), []) from rfl)
  refine ⟨u', hru, ⟨_, hu, h2.put _ _, fun j hj => ?_, fun s v hs' hv' hno => ?_⟩, ht⟩
  · rcases Nat.lt_or_ge j m with hjm | hjm
    · have hah : AH (hs.getD j z5) (hs.getD m z5) := by
        rw [getD_get (by omega), getD_get hm]
        exact List.pairwise_iff_getElem.1 hp j m _ _ hjm
      have hne : kl (hs.getD j z5).r (hs.getD j z5).n ≠ kl (hs.getD m z5).r (hs.getD m z5).n := fun e => hah.apart (kl_inj (hok j (by omega)).1 (hok j (by omega)).2 (hok m hm).1 (hok m hm).2 e)
      exact ⟨by rw [Maps.has_put_other hne]; exact (h3 j hjm).1, fun z => by rw [Maps.atKey_put_other hne]; exact (h3 j hjm).2 z⟩
    · have e : j = m := by omega
      subst e
      exact ⟨Maps.has_put_same h2 (kl_key _ _) _, fun z => Maps.atKey_put_same h2 (kl_key _ _) _ z⟩
  · have hne : kl s v ≠ kl (hs.getD m z5).r (hs.getD m z5).n := fun e => by
      obtain ⟨e1, e2⟩ := kl_inj hs' hv' (hok m hm).1 (hok m hm).2 e
      exact hno m (by omega) ⟨e1.symm, e2.symm⟩
    rw [Maps.has_put_other hne]
    exact h4 s v hs' hv' fun j hj => hno j (by omega)
theorem PlAt.hit {u : World} {b m : Nat} {hs : List Ho} (h : PlAt u b hs m) (hr : ∀ x ∈ hs, rightH x = true) (hm : m ≤ hs.length) {j : Nat} (hj : j < m) {s v : Int} (hs' : (hs.getD j z5).r = s) (hv : (hs.getD j z5).n = v) :
    (Instr.lookup 135 (.map (some b)) (.agg #[.int .i64 s, .int .i64 v]) true).run Tryz.prog u = .ok (.tuple #[.int .i64 (j : Int), .bool true]) u := by
  subst hs'; subst hv
  obtain ⟨D, h1, h2, h3, h4⟩ := h
  have := rightH_iff.1 (hr _ (getD_mem (show j < hs.length by omega)))
  obtain ⟨v, ps, hru, hv⟩ := h1.look_ok mp_keyed Tryz.underlying135 (mp_zero u) (show plR (.int .i64 0) = some (.lit (.int .i64 0), []) from rfl) (keyOf_mk (ok64_of (n := (hs.getD j z5).r) (by omega) (by omega)) (ok64_of (n := (hs.getD j z5).n) (by omega) (by omega)))
  rw [(h3 j hj).2] at hv
  rw [hru, (h3 j hj).1, plR_inv hv]
theorem PlAt.miss {u : World} {b m : Nat} {hs : List Ho} (h : PlAt u b hs m) {s v : Int} (h1 : ok64 s) (h2 : ok64 v) (hno : ∀ j, j < m → ¬ ((hs.getD j z5).r = s ∧ (hs.getD j z5).n = v)) :
    (Instr.lookup 135 (.map (some b)) (.agg #[.int .i64 s, .int .i64 v]) true).run Tryz.prog u = .ok (.tuple #[.int .i64 0, .bool false]) u := by
  obtain ⟨D, g1, g2, g3, g4⟩ := h
  have a3 := g4 _ _ h1 h2 hno
  obtain ⟨v, ps, hru, hv'⟩ := g1.look_ok mp_keyed Tryz.underlying135 (mp_zero u) (show plR (.int .i64 0) = some (.lit (.int .i64 0), []) from rfl) (keyOf_mk h1 h2)
  rw [Maps.atKey_of_not_has a3] at hv'
  rw [hru, a3, plR_inv hv']
theorem KeepR.turned {w u u' : World} {l : List (Nat × TypeId × List Int)} (h : KeepR w l u) {b : Nat} (hb : w.heap.size ≤ b) (ht : u.mapTurned u' b) : KeepR w l u' := by
  have hg := ht.grown
  obtain ⟨es, c, _, _, hm, _⟩ := ht
  refine ⟨?_, fun x hx => ⟨(h.blk x hx).1, ?_⟩, h.apart⟩
  · exact ⟨hg.os.trans h.bel.os, hg.tape.trans h.bel.tape, hg.output.trans h.bel.output, Nat.le_trans h.bel.size hg.size, fun k hk => (hg.block k (Nat.lt_of_lt_of_le hk h.bel.size) (fun e => by injection e with e; omega)).trans (h.bel.block k hk)⟩
  · have hx := (h.blk x hx).2
    have hne : some x.1 ≠ some b := fun e => by
      injection e with e
      unfold Blk at hx
      rw [e, hm] at hx
      cases hx
    exact (hg.block x.1 hx.lt hne).trans hx
/-! ### At the operations. -/
theorem run_makeMap_hint (n : Int) (u : World) : (Instr.makeMap 135 (some (.int .i64 n))).run Tryz.prog u = .ok (.map (some u.heap.size)) (u.alloc (.map #[] 0)) := by
  simp [Instr.makeMap, run_underlying Tryz.underlying135, asInt, newObj]
  rfl
theorem map_new {ops : Array Oper} {rest : List Oper} {o : Oper} {a : Act} {w u : World} {l : List (Nat × TypeId × List Int)} {Q : Exit → Act → World → Prop} (hk : KeepR w l u) (hs : List Ho) (hgd : o.guard = none) (x : Operand) (ho : o.op = .makeMap 135 (some x)) {n : Int} (hx : a.eval x = .int .i64 n)
    (h : ∀ b u', w.heap.size ≤ b → KeepR w l u' → PlAt u' b hs 0 → wpList Tryz.prog ops Q rest (a.put o.dst (.map (some b))) u') : wpList Tryz.prog ops Q (o :: rest) a u :=
  wpList_plain hgd fun K hK => by
    have hb : Below u.heap.size u (u.alloc (.map #[] 0)) := (Below.refl _ _).alloc (Nat.le_refl _) _
    have := hK _ _ (h _ _ hk.bel.size (hk.call hb) (PlAt.made u hs))
    unfold Oper.wp
    simp [execOp, ho, hx, run_makeMap_hint, Result.andThen]
    exact this
theorem key_run (p q : Int) (W : World) : (Instr.build 139 #[(0, .int .i64 p), (1, .int .i64 q)]).run Tryz.prog W = .ok (.agg #[.int .i64 p, .int .i64 q]) W := by kernel_rfl
theorem build_key {ops : Array Oper} {rest : List Oper} {o : Oper} {a : Act} {u : World} {Q : Exit → Act → World → Prop} (hgd : o.guard = none) (x y : Operand) (ho : o.op = .build 139 #[(0, x), (1, y)]) {p q : Int}
    (hx : a.eval x = .int .i64 p) (hy : a.eval y = .int .i64 q)
    (h : wpList Tryz.prog ops Q rest (a.put o.dst (.agg #[.int .i64 p, .int .i64 q])) u) : wpList Tryz.prog ops Q (o :: rest) a u :=
  wpList_plain hgd fun K hK => by
    unfold Oper.wp execOp
    simp only [ho, List.map_toArray, List.map_cons, List.map_nil, hx, hy, Sem.run_bind, Sem.run_pure, Result.andThen_ok, key_run]
    exact hK _ _ h
theorem map_put {ops : Array Oper} {rest : List Oper} {o : Oper} {a : Act} {w u : World} {l : List (Nat × TypeId × List Int)} {Q : Exit → Act → World → Prop} (hk : KeepR w l u) {b m : Nat} {hs : List Ho} (hm : PlAt u b hs m) (hw : w.heap.size ≤ b) (hml : m < hs.length) (hn : m < 1000) (hr : ∀ x ∈ hs, rightH x = true) (hp : hs.Pairwise AH) {h0 : Ho} (hh : hs.getD m z5 = h0)
    (hgd : o.guard = none) (mm x v : Operand) (ho : o.op = .mapUpdate 135 mm x v) (hd : o.dst = none) (em : a.eval mm = .map (some b)) (ex : a.eval x = .agg #[.int .i64 h0.r, .int .i64 h0.n]) (ev : a.eval v = .int .i64 (m : Int))
    (h : ∀ u', KeepR w l u' → PlAt u' b hs (m + 1) → wpList Tryz.prog ops Q rest a u') : wpList Tryz.prog ops Q (o :: rest) a u :=
  wpList_plain hgd fun K hK => by
    obtain ⟨u', hru, hm', ht⟩ := hm.put hml hn hr hp
    rw [hh] at hru
    have := hK _ _ (h u' (hk.turned hw ht) hm')
    have e : a.put o.dst undef = a := by rw [hd]; rfl
    rw [← e] at this
    unfold Oper.wp
    simp [execOp, ho, em, ex, ev, hru, Result.andThen]
    exact this
theorem map_hit {ops : Array Oper} {rest : List Oper} {o : Oper} {a : Act} {u : World} {Q : Exit → Act → World → Prop} {b m : Nat} {hs : List Ho} (hm : PlAt u b hs m) (hr : ∀ x ∈ hs, rightH x = true) (hml : m ≤ hs.length) {j : Nat} (hj : j < m) {s v : Int} (hs' : (hs.getD j z5).r = s) (hv : (hs.getD j z5).n = v) (hgd : o.guard = none) (mm x : Operand) (ho : o.op = .lookup 135 mm x true)
    (em : a.eval mm = .map (some b)) (ex : a.eval x = .agg #[.int .i64 s, .int .i64 v]) (h : wpList Tryz.prog ops Q rest (a.put o.dst (.tuple #[.int .i64 (j : Int), .bool true])) u) : wpList Tryz.prog ops Q (o :: rest) a u :=
  wpList_plain hgd fun K hK => by
    unfold Oper.wp
    simp [execOp, ho, em, ex, hm.hit hr hml hj hs' hv, Result.andThen]
    exact hK _ _ h
theorem map_miss {ops : Array Oper} {rest : List Oper} {o : Oper} {a : Act} {u : World} {Q : Exit → Act → World → Prop} {b m : Nat} {hs : List Ho} (hm : PlAt u b hs m) {s v : Int} (h1 : ok64 s) (h2 : ok64 v) (hno : ∀ j, j < m → ¬ ((hs.getD j z5).r = s ∧ (hs.getD j z5).n = v)) (hgd : o.guard = none) (mm x : Operand) (ho : o.op = .lookup 135 mm x true)
    (em : a.eval mm = .map (some b)) (ex : a.eval x = .agg #[.int .i64 s, .int .i64 v]) (h : wpList Tryz.prog ops Q rest (a.put o.dst (.tuple #[.int .i64 0, .bool false])) u) : wpList Tryz.prog ops Q (o :: rest) a u :=
  wpList_plain hgd fun K hK => by
    unfold Oper.wp
    simp [execOp, ho, em, ex, hm.miss h1 h2 hno, Result.andThen]
    exact hK _ _ h
set_option maxHeartbeats 2000000 in
theorem places_any (A : Option Addr) (n c : Nat) (hs : List Ho) (w : World) (hd : Row w A n hs) (hrt : rightsL hs = true) :
    Calls Tryz.prog 95 #[.slice A n c] w fun e w' => ∃ b, e = .returned (.map (some b)) ∧ PlAt w' b hs n ∧ w.heap.size ≤ b ∧ Below w.heap.size w w' := by
  have HD := Lib.hid hd; have HL := Lib.hid hd.1; have HNB := Lib.hid hd.2.1; clear hd
  have HRH := Lib.hid (rights_iff.1 hrt).2.1; have HPW := Lib.hid (rights_iff.1 hrt).2.2
  clear hrt
  have HK := Lib.hid (KeepR.start w)
  go_enter Tryz.func95, Tryz.ntmps95
  go_wp2_with (first
    | (with_reducible refine map_new HK.out hs rfl _ rfl rfl ?_; intro bm u hw hk hp; have HW := Lib.hid hw; have HP := Lib.hid hp; clear hw hp; clear HK; have HK := Lib.hid hk; clear hk))
  go_loopw [11] (fun i wr => ∃ m : Nat, m ≤ n ∧ i = .int .i64 m ∧ PlAt wr bm hs m ∧ KeepR w [] wr) (fun i _ => n - (intOf i).toNat)
  case atStart => exact ⟨0, by omega, rfl, HP.out, HK.out⟩
  case round =>
    obtain ⟨m, hm, rfl, hp, hk⟩ := hrel
    clear HK HP
    have HK := Lib.hid hk; have HP := Lib.hid hp
    clear hk hp
    by_cases hlt : m < n
    · have hnb := HNB.out
      have HML := Lib.hid (show m < hs.length by have := HL.out; omega)
      have HM1 := Lib.hid (show m < 1000 by omega)
      obtain ⟨b, off, rfl, hr⟩ := HD.out.at hlt
      have hrm := hr m hlt
      clear hr
      obtain ⟨h, hh⟩ : ∃ h, hs.getD m z5 = h := ⟨_, rfl⟩
      rw [hh] at hrm
      have HH := Lib.hid hh
      have HR := Lib.hid hrm; have HC := Lib.hid (range_lt hrm)
      clear hrm hh
      have i1 : (0 : Int) ≤ (m : Int) := by omega
      have i2 : (m : Int) < (n : Int) := by omega
      go_wp2_with (first
        | (with_reducible refine load_hold (range_below HR.out HK.out.bel HC.out) _ rfl rfl rfl ?_)
        | (with_reducible refine alloc_zero HK.out 5 h_zero rfl rfl ?_; intro bh u hn0 hk hb; have hp0 := HP.out.below hb; clear HP; have HP := Lib.hid hp0; clear hp0; clear hn0 hb; clear HK; have HK := Lib.hid hk; clear hk)
        | (with_reducible refine store_all HK.out 0 5 h_info rfl rfl _ _ rfl rfl rfl rfl (Ho.len _) (zer_length 5) ?_; intro u hk hs0; have hp0 := HP.out.store (HK.out.get 0 rfl) hs0; clear HP; have HP := Lib.hid hp0; clear hp0 hs0; simp only [List.set_cons_zero] at hk; clear HK; have HK := Lib.hid hk; clear hk)
        | (with_reducible refine load_val HK.out 0 rfl _ rfl rfl rfl (Ho.g0 _) (Ho.p0 _) ?_)
        | (with_reducible refine load_val HK.out 0 rfl _ rfl rfl rfl (Ho.g1 _) (Ho.p1 _) ?_)
        | (with_reducible refine build_key rfl _ _ rfl rfl rfl ?_)
        | (with_reducible refine map_put HK.out HP.out HW.out HML.out HM1.out HRH.out HPW.out HH.out rfl _ _ _ rfl rfl rfl rfl rfl ?_; intro u hk hp0; clear HP; have HP := Lib.hid hp0; clear hp0; clear HK; have HK := Lib.hid hk; clear hk))
      go_roundw
      case rel => exact ⟨m + 1, by omega, by go_num, HP.out, HK.out.tail⟩
      case measure => simp [intOf]; omega
    · obtain rfl : m = n := by omega
      go_wp2
      go_ret
      exact ⟨bm, rfl, HP.out, HW.out, HK.out.bel⟩
end Go.Proofs.YtofngihdnjgmeaaGreat

namespace Go.Proofs.YtofngihdnjgmeaaGreat
set_option maxRecDepth 100000
open Go.ChangeShapes Go.WideShapes Go.ChangeAt Go.RowKit

theorem PlAt.apart {u : World} {b m base : Nat} {hs xs : List Ho} {v : Value} (h : PlAt u b hs m) (ho : Own u base v xs) : some b ≠ v.ownBlock := by
  rcases ho.2 with ⟨rfl, _⟩ | ⟨g, cap, cur, rfl, _, h2, _⟩
  · simp [Value.ownBlock]
  · intro e
    simp only [Value.ownBlock, Option.some.injEq] at e
    exact h.ne h2 e
theorem app_pl {w u : World} {ops : Array Oper} {rest : List Oper} {o : Oper} {a : Act} {Q : Exit → Act → World → Prop} {l : List (Nat × TypeId × List Int)} {v : Value} {xs : List Ho} {bm m0 : Nat} {xa : List Ho} (hk : KeepH w l v xs u) (hp : PlAt u bm xa m0) (hgd : o.guard = none) (s x : Operand)
    (ho : o.op = .call { callee := .builtin .append, args := #[s, x], argTypes := #[31, 31] }) (hs : a.eval s = v)
    (A : Option Addr) (m c : Nat) (zs : List Ho) (hx : a.eval x = .slice A m c) (hr : Row u A m zs) (h63 : xs.length + m ≤ 2000)
    (h : ∀ v' u', KeepH w l v' (xs ++ zs) u' → PlAt u' bm xa m0 → wpList Tryz.prog ops Q rest (a.put o.dst v') u') : wpList Tryz.prog ops Q (o :: rest) a u :=
  wpList_plain hgd fun _ hK => by
    obtain ⟨v', w', hrun, h2, h3, h4⟩ := append_hos u w.heap.size o.type v xs hk.own A m c zs hr h63 hk.keep.bel.size
    unfold Oper.wp execOp
    simp only [ho, resolve, invoke, builtin, Sem.run_bind, Sem.run_pure, Result.andThen_ok, List.map_toArray, List.map_cons, List.map_nil, hs, hx, hrun]
    exact hK _ _ (h v' w' (hk.grown h3 h2 h4) (hp.turn (h3.block bm hp.lt (hp.apart hk.own))))
theorem wp_store_pl {o : Oper} {a : Act} {w u : World} {l : List (Nat × TypeId × List Int)} {g cap n : Nat} {hs : List Ho} {bm m0 : Nat} {xa : List Ho} {K : Act → World → Prop} {Q : Exit → Act → World → Prop} (hk : KeepH w l (.slice (some ⟨g, 0, none⟩) n cap) hs u) (hp : PlAt u bm xa m0) {k : Nat} (hkl : k < hs.length) (hd : o.dst = none) (x y : Operand) (ho : o.op = .store 3 x y) {z : Int} {off : Nat}
    (hx : a.eval x = .pointer (some ⟨g, off, none⟩)) (hoff : off = k * 5 + 4) (hy : a.eval y = .int .i64 z)
    (h : ∀ u', KeepH w l (.slice (some ⟨g, 0, none⟩) n cap) (hs.set k ⟨(hs.getD k z5).r, (hs.getD k z5).n, (hs.getD k z5).a, (hs.getD k z5).d, z⟩) u' → PlAt u' bm xa m0 → K a u') : o.wp Tryz.prog a u K Q := by
  subst hoff
  have hc := (range5 (hk.own.range hkl)).2.2.2.2
  have hf := hk.own.frozen (k * 5 + 4)
  have hne : bm ≠ g := fun e => hp.apart hk.own (by rw [e]; rfl)
  have := h _ (hk.state hkl z) (hp.turn (heap_setCell_other u ⟨g, k * 5 + 4, none⟩ bm _ hne))
  unfold Oper.wp execOp
  simp only [ho, hx, hy]
  simp [go_sem, hc, hf]
  simpa [hd, Act.put] using this
theorem yield_max {ops : Array Oper} {S : World → Prop} {o : Oper} {a : Act} {p q : Int} (x y : Operand) (ho : o.op = .call { callee := .builtin .max, args := #[x, y], argTypes := #[3, 3] }) (hx : a.eval x = .int .i64 p) (hy : a.eval y = .int .i64 q) (hw : Region.wanted o (yielded ops a.tmps) = true) :
    YieldsIf Tryz.prog ops S o (.int .i64 (max p q)) a :=
  .inl ⟨hw, fun w _ => by
    have e : (Builtin.max_ #[3, 3] o.type #[.int .i64 p, .int .i64 q]).run Tryz.prog w = .ok (.int .i64 (max p q)) w := by
      rw [run_max_int2]
      congr 2
      split <;> omega
    unfold execOp
    simp only [ho, resolve, invoke, builtin, Sem.run_bind, Sem.run_pure, Result.andThen_ok, List.map_toArray, List.map_cons, List.map_nil, hx, hy, e]⟩
/-- No two of one name, of two that may be. -/
theorem take_apart {b : List Ho} {m : Nat} (hb : b.Pairwise AH) (hm : m < b.length) : ∀ y ∈ b.take m, ¬ SN y (b.getD m z5) := by
  intro y hy
  obtain ⟨j, hj, rfl⟩ := List.getElem_of_mem hy
  rw [List.getElem_take, getD_get hm]
  have hj' : j < m := by simp at hj; omega
  exact (List.pairwise_iff_getElem.1 hb j m (by omega) hm hj').apart
theorem clB_hit {a : List Ho} {y x : Ho} (h : fnd a y.r y.n = some x) : clB a y = ((x.a != y.a) || (x.d != y.d)) := by unfold clB; rw [h]
theorem clB_miss {a : List Ho} {y : Ho} (h : fnd a y.r y.n = none) : clB a y = false := by unfold clB; rw [h]
theorem join_bad {a b : List Ho} (h : (rightsL a && rightsL b) = false) : joinE a b = 1 ∧ joinLH a b = [] := by
  have e : joinE a b = 1 := by unfold joinE; rw [h]; rfl
  exact ⟨e, by rw [joinLH, e]; rfl⟩
theorem join_clash {a b : List Ho} {m : Nat} (hm : m < b.length) (hc : clB a (b.getD m z5) = true) : joinE a b = 1 ∧ joinLH a b = [] := by
  have e : joinE a b = 1 := by
    unfold joinE
    rw [if_pos (show b.any (clB a) = true from List.any_eq_true.2 ⟨_, getD_mem hm, hc⟩)]
    split <;> rfl
  exact ⟨e, by rw [joinLH, e]; rfl⟩
theorem any_none {b : List Ho} {p : Ho → Bool} (h : ∀ j, j < b.length → p (b.getD j z5) = false) : b.any p = false := by
  rw [List.any_eq_false]
  intro x hx
  obtain ⟨i, hi, rfl⟩ := mem_getD hx
  rw [h i hi]; decide
theorem join_full {a b : List Ho} (h : (rightsL a && rightsL b) = true) (hc : ∀ j, j < b.length → clB a (b.getD j z5) = false) (hl : 16 < (jraw a b).length) : joinE a b = 7 ∧ joinLH a b = [] := by
  have e : joinE a b = 7 := by unfold joinE; rw [h, if_pos rfl, any_none hc, if_neg (by decide), if_pos hl]
  exact ⟨e, by rw [joinLH, e]; rfl⟩
theorem join_good {a b : List Ho} (h : (rightsL a && rightsL b) = true) (hc : ∀ j, j < b.length → clB a (b.getD j z5) = false) (hl : ¬ 16 < (jraw a b).length) : joinE a b = 0 ∧ joinLH a b = isort (jraw a b) := by
  have e : joinE a b = 0 := by unfold joinE; rw [h, if_pos rfl, any_none hc, if_neg (by decide), if_neg hl]
  exact ⟨e, by rw [joinLH, e]; rfl⟩
theorem own_len {u : World} {base : Nat} {v : Value} {hs : List Ho} {n : Nat} (ho : Own u base v hs) (hl : hs.length = n) : ∃ A1 c1, v = .slice A1 n c1 ∧ n ≤ c1 := by
  rcases ho.2 with ⟨rfl, h0⟩ | ⟨g, cap, cur, rfl, _, _, h3, _⟩
  · exact ⟨none, 0, by rw [← hl, h0], by omega⟩
  · exact ⟨_, cap, by rw [hl], by omega⟩
set_option maxHeartbeats 8000000 in
set_option maxRecDepth 100000 in
theorem join_anyH (A B : Option Addr) (na ca nb cb : Nat) (xa xb : List Ho) (w : World) (hda : Row w A na xa) (hdb : Row w B nb xb) :
    Calls Tryz.prog 49 #[.slice A na ca, .slice B nb cb] w fun e w' => ∃ v, e = .returned (.tuple #[v, .int .i64 (joinE xa xb)]) ∧ Own w' w.heap.size v (joinLH xa xb) ∧ Below w.heap.size w w' := by
  have HDA := Lib.hid hda; have HLA := Lib.hid hda.1; have HNBA := Lib.hid hda.2.1; clear hda
  have HDB := Lib.hid hdb; have HLB := Lib.hid hdb.1; have HNBB := Lib.hid hdb.2.1; clear hdb
  have HK := Lib.hid (KeepR.start w)
  cases hra : rightsL xa with
  | false =>
    obtain ⟨e1, e2⟩ := join_bad (a := xa) (b := xb) (by rw [hra, Bool.false_and])
    rw [e1, e2]
    have HRA := Lib.hid hra
    clear e1 e2
    go_enter Tryz.func49, Tryz.ntmps49
    go_wp2_with (first
      | (go_at_call 94; (with_reducible refine (rights_eq _ _ _ _ _ HRA.out _ (HDA.out.below HK.out.bel (Nat.le_refl _))).mono ?_); rintro e u ⟨rfl, hb⟩; have hk := HK.out.call hb; clear hb; clear HK; have HK := Lib.hid hk; clear hk))
    go_ret2
    exact ⟨_, rfl, Own.nil _ _, HK.out.bel⟩
  | true =>
    have HRA := Lib.hid hra
    cases hrb : rightsL xb with
    | false =>
      obtain ⟨e1, e2⟩ := join_bad (a := xa) (b := xb) (by rw [hrb, Bool.and_false])
      rw [e1, e2]
      have HRB := Lib.hid hrb
      clear e1 e2
      go_enter Tryz.func49, Tryz.ntmps49
      go_wp2_with (first
        | (go_at_call 94; (with_reducible refine (rights_eq _ _ _ _ _ HRA.out _ (HDA.out.below HK.out.bel (Nat.le_refl _))).mono ?_); rintro e u ⟨rfl, hb⟩; have hk := HK.out.call hb; clear hb; clear HK; have HK := Lib.hid hk; clear hk)
        | (go_at_call 94; (with_reducible refine (rights_eq _ _ _ _ _ HRB.out _ (HDB.out.below HK.out.bel (Nat.le_refl _))).mono ?_); rintro e u ⟨rfl, hb⟩; have hk := HK.out.call hb; clear hb; clear HK; have HK := Lib.hid hk; clear hk))
      go_ret2
      exact ⟨_, rfl, Own.nil _ _, HK.out.bel⟩
    | true =>
      have HRB := Lib.hid hrb
      have HAB := Lib.hid (show (rightsL xa && rightsL xb) = true by rw [hra, hrb]; rfl)
      have HRHA := Lib.hid (rights_iff.1 hra).2.1; have HPWA := Lib.hid (rights_iff.1 hra).2.2; have H16A := Lib.hid (rights_iff.1 hra).1
      have HRHB := Lib.hid (rights_iff.1 hrb).2.1; have HPWB := Lib.hid (rights_iff.1 hrb).2.2; have H16B := Lib.hid (rights_iff.1 hrb).1
      have HNA := Lib.hid (show na ≤ xa.length by have := HLA.out; omega)
      clear hra hrb
      go_enter Tryz.func49, Tryz.ntmps49
      go_wp2_with (first
        | (go_at_call 94; (with_reducible refine (rights_eq _ _ _ _ _ HRA.out _ (HDA.out.below HK.out.bel (Nat.le_refl _))).mono ?_); rintro e u ⟨rfl, hb⟩; have hk := HK.out.call hb; clear hb; clear HK; have HK := Lib.hid hk; clear hk)
        | (go_at_call 94; (with_reducible refine (rights_eq _ _ _ _ _ HRB.out _ (HDB.out.below HK.out.bel (Nat.le_refl _))).mono ?_); rintro e u ⟨rfl, hb⟩; have hk := HK.out.call hb; clear hb; clear HK; have HK := Lib.hid hk; clear hk)
        | (go_at_call 46; (with_reducible refine (clone_any _ _ _ _ _ (HDA.out.below HK.out.bel (Nat.le_refl _))).mono ?_); rintro e u ⟨v1, rfl, ho, hb⟩; have hk := (KeepH.of_keep HK.out).other hb ho; clear ho hb; clear HK; have HK := Lib.hid hk; clear hk)
        | (go_at_call 95; (with_reducible refine (places_any _ _ _ _ _ (HDA.out.below HK.out.keep.bel (Nat.le_refl _)) HRA.out).mono ?_); rintro e u ⟨bm, rfl, hp, hw0, hb⟩; have HP := Lib.hid hp; have hk := HK.out.call hb; clear hp hw0 hb; clear HK; have HK := Lib.hid hk; clear hk))
      go_loopw [6, 26] (fun v i wr => ∃ m : Nat, m ≤ nb ∧ i = .int .i64 m ∧ (∀ j, j < m → clB xa (xb.getD j z5) = false) ∧ KeepH w [] v (jraw xa (xb.take m)) wr ∧ PlAt wr bm xa na) (fun _ i _ => nb - (intOf i).toNat)
      case atStart => exact ⟨0, by omega, rfl, by omega, by rw [List.take_zero, jraw_nil]; exact HK.out, HP.out⟩
      case round =>
        obtain ⟨m, hm, rfl, hu, hk, hp⟩ := hrel
        clear HK HP
        have HK := Lib.hid hk; have HP := Lib.hid hp; have HU := Lib.hid hu
        clear hk hp hu
        have hlen := (jraw_length xa (xb.take m)).2
        have hla := (jraw_length xa (xb.take m)).1
        have htl : (xb.take m).length ≤ 16 := by have := H16B.out; simp; omega
        by_cases hlt : m < nb
        · have hnb := HNBB.out
          have hmb : m < xb.length := by have := HLB.out; omega
          have HMB := Lib.hid hmb
          have htk : xb.take (m + 1) = xb.take m ++ [xb.getD m z5] := take_succ_getD hmb
          have hta := take_apart HPWB.out hmb
          have hri := rightH_iff.1 (HRHB.out _ (getD_mem hmb))
          obtain ⟨b, off, rfl, hr⟩ := HDB.out.at hlt
          have hrm := hr m hlt
          clear hr
          obtain ⟨h, hh⟩ : ∃ h, xb.getD m z5 = h := ⟨_, rfl⟩
          rw [hh] at hrm htk hta hri
          have HH := Lib.hid hh
          have HR := Lib.hid hrm; have HC := Lib.hid (range_lt hrm)
          clear hrm hh
          have i1 : (0 : Int) ≤ (m : Int) := by omega
          have i2 : (m : Int) < (nb : Int) := by omega
          obtain ⟨L, hL⟩ : ∃ L, jraw xa (xb.take m) = L := ⟨_, rfl⟩
          rw [hL] at HK hlen hla
          have HLEN := Lib.hid (show L.length ≤ 40 by have := H16A.out; omega)
          have HTK := Lib.hid htk
          rcases plc_cases xa h.r h.n with ⟨_, hno⟩ | ⟨i, hi, _, hyes, hno⟩
          · have hf := fnd_miss hno
            have HO1 := Lib.hid (show ok64 h.r from ok64_of (by omega) (by omega)); have HO2 := Lib.hid (show ok64 h.n from ok64_of (by omega) (by omega))
            have HNO := Lib.hid (show ∀ j, j < na → ¬ ((xa.getD j z5).r = h.r ∧ (xa.getD j z5).n = h.n) from fun j hj => nm_not.1 (hno j (by have := HLA.out; omega)))
            have HNX := Lib.hid (show jraw xa (xb.take (m + 1)) = L ++ [h] by rw [htk, jraw_new hf, hL])
            have HCL := Lib.hid (show clB xa h = false from clB_miss hf)
            clear hno hf hL htk hta hri hlen hla htl hmb
            go_wp2_with (first
              | (with_reducible refine load_hold (range_below HR.out HK.out.keep.bel HC.out) _ rfl rfl rfl ?_)
              | (with_reducible refine alloc_zero HK.out.keep 5 h_zero rfl rfl ?_; intro bh u hn0 hk0 hb; have hk := HK.out.of_alloc hn0 hk0 hb; have hp0 := HP.out.below hb; clear HP; have HP := Lib.hid hp0; clear hp0; clear hn0 hk0 hb; clear HK; have HK := Lib.hid hk; clear hk)
              | (with_reducible refine store_all HK.out.keep 0 5 h_info rfl rfl _ _ rfl rfl rfl rfl (Ho.len _) (zer_length 5) ?_; intro u hk0 hs0; have hp0 := HP.out.store (HK.out.keep.get 0 rfl) hs0; have hk := HK.out.of_store 0 rfl hk0 hs0; clear HP; have HP := Lib.hid hp0; clear hp0 hk0 hs0; simp only [List.set_cons_zero] at hk; clear HK; have HK := Lib.hid hk; clear hk)
              | (with_reducible refine load_val HK.out.keep 0 rfl _ rfl rfl rfl (Ho.g0 _) (Ho.p0 _) ?_)
              | (with_reducible refine load_val HK.out.keep 0 rfl _ rfl rfl rfl (Ho.g1 _) (Ho.p1 _) ?_)
              | (with_reducible refine load_val HK.out.keep 0 rfl _ rfl rfl rfl (Ho.g2 _) (Ho.p2 _) ?_)
              | (with_reducible refine load_val HK.out.keep 0 rfl _ rfl rfl rfl (Ho.g3 _) (Ho.p3 _) ?_)
              | (with_reducible refine load_val HK.out.keep 0 rfl _ rfl rfl rfl (Ho.g4 _) (Ho.p4 _) ?_)
              | (with_reducible refine build_key rfl _ _ rfl rfl rfl ?_)
              | (with_reducible refine map_miss HP.out HO1.out HO2.out HNO.out rfl _ _ rfl rfl rfl ?_)
              | (with_reducible refine load_all HK.out.keep 0 5 Tryz.underlying55 rfl h_info rfl _ rfl rfl rfl (Ho.len _) ?_)
              | (with_reducible refine build_one HK.out rfl _ rfl rfl ?_; intro b1 u hk hb; have hp0 := HP.out.below hb; clear HP; have HP := Lib.hid hp0; clear hp0; clear hb; clear HK; have HK := Lib.hid hk; clear hk)
              | (refine app_pl HK.out HP.out rfl _ _ rfl rfl _ _ _ _ rfl HK.out.one (by have := HLEN.out; omega) ?_; intro v2 u hk0 hp0; have hk := hk0.tail.tail; clear HP hk0; have HP := Lib.hid hp0; clear hp0; clear HK; have HK := Lib.hid hk; clear hk))
            go_roundw
            case rel => exact ⟨m + 1, by omega, by go_num, fun j hj => by
              rcases Nat.lt_or_ge j m with h1 | h1
              · exact HU.out j h1
              · rw [show j = m by omega, HH.out]; exact HCL.out, by rw [HNX.out]; exact HK.out, HP.out⟩
            case measure => simp [intOf]; omega
          · have hsn : SN (xa.getD i z5) h := nm_SN.1 hyes
            have hf := fnd_hit hi hno hyes
            obtain ⟨hj1, hj2⟩ := jraw_hit (c := xb.take m) HPWA.out hi hsn hta
            rw [hL, ← htk] at hj1
            rw [hL] at hj2
            obtain ⟨g, cap, hv, _⟩ := HK.out.own.at (by omega)
            subst hv
            obtain ⟨N, hN⟩ : ∃ N, L.length = N := ⟨_, rfl⟩
            have HIL := Lib.hid (show i < L.length by omega)
            have i3 : (0 : Int) ≤ (i : Int) := by omega
            have i4 : (i : Int) < (N : Int) := by omega
            rw [hN] at HK
            rw [hN]
            have HIA := Lib.hid (show i < na by have := HLA.out; omega)
            obtain ⟨x, hx⟩ : ∃ x, xa.getD i z5 = x := ⟨_, rfl⟩
            rw [hx] at hsn hf hj1 hj2
            have HS1 := Lib.hid (show (xa.getD i z5).r = h.r by rw [hx]; exact hsn.1); have HS2 := Lib.hid (show (xa.getD i z5).n = h.n by rw [hx]; exact hsn.2)
            have HIE := Lib.hid hj2
            have hcl := clB_hit hf
            have HJ1 := Lib.hid hj1
            clear hj1 hj2 hf hsn hx hno hyes hL htk hta hri hlen hla htl hmb hN hi
            by_cases ha : h.a = x.a
            · have HQ1 := Lib.hid (show (h.a != x.a) = false by simp [ha])
              by_cases hd : h.d = x.d
              · have HQ2 := Lib.hid (show (h.d != x.d) = false by simp [hd])
                have HCL := Lib.hid (show clB xa h = false by rw [hcl]; simp [ha, hd])
                clear hcl ha hd
                go_wp2_with (first
                  | (with_reducible refine load_hold (range_below HR.out HK.out.keep.bel HC.out) _ rfl rfl rfl ?_)
                  | (with_reducible refine alloc_zero HK.out.keep 5 h_zero rfl rfl ?_; intro bh u hn0 hk0 hb; have hk := HK.out.of_alloc hn0 hk0 hb; have hp0 := HP.out.below hb; clear HP; have HP := Lib.hid hp0; clear hp0; clear hn0 hk0 hb; clear HK; have HK := Lib.hid hk; clear hk)
                  | (with_reducible refine store_all HK.out.keep 0 5 h_info rfl rfl _ _ rfl rfl rfl rfl (Ho.len _) (zer_length 5) ?_; intro u hk0 hs0; have hp0 := HP.out.store (HK.out.keep.get 0 rfl) hs0; have hk := HK.out.of_store 0 rfl hk0 hs0; clear HP; have HP := Lib.hid hp0; clear hp0 hk0 hs0; simp only [List.set_cons_zero] at hk; clear HK; have HK := Lib.hid hk; clear hk)
                  | (with_reducible refine load_val HK.out.keep 0 rfl _ rfl rfl rfl (Ho.g0 _) (Ho.p0 _) ?_)
                  | (with_reducible refine load_val HK.out.keep 0 rfl _ rfl rfl rfl (Ho.g1 _) (Ho.p1 _) ?_)
                  | (with_reducible refine load_val HK.out.keep 0 rfl _ rfl rfl rfl (Ho.g2 _) (Ho.p2 _) ?_)
                  | (with_reducible refine load_val HK.out.keep 0 rfl _ rfl rfl rfl (Ho.g3 _) (Ho.p3 _) ?_)
                  | (with_reducible refine load_val HK.out.keep 0 rfl _ rfl rfl rfl (Ho.g4 _) (Ho.p4 _) ?_)
                  | (with_reducible refine build_key rfl _ _ rfl rfl rfl ?_)
                  | (with_reducible refine map_hit HP.out HRHA.out HNA.out HIA.out HS1.out HS2.out rfl _ _ rfl rfl rfl ?_))
                refine Draws.start (S := fun u => KeepH w [(bh, 55, h.l)] (.slice (some ⟨g, 0, none⟩) N cap) L u ∧ PlAt u bm xa na) (n := 18) 18 rfl (by kernel_rfl) ?_
                have HS := Lib.hid (show (fun u => KeepH w [(bh, 55, h.l)] (.slice (some ⟨g, 0, none⟩) N cap) L u ∧ PlAt u bm xa na) _ from ⟨HK.out.drew, HP.out⟩)
                refine Draws.take 0 (v := ?v13) HS.out rfl (by kernel_rfl) (fun _ _ _ h => h) (Or.inl ⟨rfl, ?h13⟩) ?r13
                case h13 => intro w' hw'; go_simp; (try with_reducible rfl)
                (try simp only [Act.put, List.setIfInBounds_toArray, List.set_cons_zero, List.set_cons_succ])
                refine Draws.take 1 HS.out rfl (by kernel_rfl) (fun _ _ _ h => h) (yield_int (fun _ hu => (hu.1.keep.get 0 rfl).five.2.2.1) _ rfl rfl rfl) ?_
                (try simp only [Act.put, List.setIfInBounds_toArray, List.set_cons_zero, List.set_cons_succ])
                refine Draws.take 2 (v := ?v14) HS.out rfl (by kernel_rfl) (fun _ _ _ h => h) (Or.inl ⟨rfl, ?h14⟩) ?r14
                case h14 => intro w' hw'; go_simp; (try with_reducible rfl)
                (try simp only [Act.put, List.setIfInBounds_toArray, List.set_cons_zero, List.set_cons_succ])
                refine Draws.take 3 (v := ?v15) HS.out rfl (by kernel_rfl) (fun _ _ _ h => h) (Or.inl ⟨rfl, ?h15⟩) ?r15
                case h15 => intro w' hw'; go_simp; (try with_reducible rfl)
                (try simp only [Act.put, List.setIfInBounds_toArray, List.set_cons_zero, List.set_cons_succ])
                refine Draws.take 4 (v := ?v16) HS.out rfl (by kernel_rfl) (fun _ _ _ h => h) (Or.inl ⟨rfl, ?h16⟩) ?r16
                case h16 => intro w' hw'; go_simp; (try with_reducible rfl)
                (try simp only [Act.put, List.setIfInBounds_toArray, List.set_cons_zero, List.set_cons_succ])
                refine Draws.take 5 (v := ?v17) HS.out rfl (by kernel_rfl) (fun _ _ _ h => h) (Or.inl ⟨rfl, ?h17⟩) ?r17
                case h17 => intro w' hw'; go_simp; (try with_reducible rfl)
                (try simp only [Act.put, List.setIfInBounds_toArray, List.set_cons_zero, List.set_cons_succ])
                refine Draws.take 6 HS.out rfl (by kernel_rfl) (fun _ _ _ h => h) (yield_int (fun _ hu => (range5 (own_load hu.1.own HIL.out HIE.out)).2.2.1) _ rfl rfl rfl) ?_
                (try simp only [Act.put, List.setIfInBounds_toArray, List.set_cons_zero, List.set_cons_succ])
                refine Draws.take 7 HS.out rfl (by kernel_rfl) (fun _ _ _ h => h) (yield_neq HQ1.out _ _ _ rfl rfl rfl rfl) ?_
                (try simp only [Act.put, List.setIfInBounds_toArray, List.set_cons_zero, List.set_cons_succ])
                refine Draws.take 8 (v := ?v18) HS.out rfl (by kernel_rfl) (fun _ _ _ h => h) (Or.inl ⟨rfl, ?h18⟩) ?r18
                case h18 => intro w' hw'; go_simp; (try with_reducible rfl)
                (try simp only [Act.put, List.setIfInBounds_toArray, List.set_cons_zero, List.set_cons_succ])
                refine Draws.take 9 (v := ?v19) HS.out rfl (by kernel_rfl) (fun _ _ _ h => h) (Or.inl ⟨rfl, ?h19⟩) ?r19
                case h19 => intro w' hw'; go_simp; (try with_reducible rfl)
                (try simp only [Act.put, List.setIfInBounds_toArray, List.set_cons_zero, List.set_cons_succ])
                refine Draws.take 10 HS.out rfl (by kernel_rfl) (fun _ _ _ h => h) (yield_int (fun _ hu => (hu.1.keep.get 0 rfl).five.2.2.2.1) _ rfl rfl rfl) ?_
                (try simp only [Act.put, List.setIfInBounds_toArray, List.set_cons_zero, List.set_cons_succ])
                refine Draws.take 11 (v := ?v20) HS.out rfl (by kernel_rfl) (fun _ _ _ h => h) (Or.inl ⟨rfl, ?h20⟩) ?r20
                case h20 => intro w' hw'; go_simp; (try with_reducible rfl)
                (try simp only [Act.put, List.setIfInBounds_toArray, List.set_cons_zero, List.set_cons_succ])
                refine Draws.take 12 (v := ?v21) HS.out rfl (by kernel_rfl) (fun _ _ _ h => h) (Or.inl ⟨rfl, ?h21⟩) ?r21
                case h21 => intro w' hw'; go_simp; (try with_reducible rfl)
                (try simp only [Act.put, List.setIfInBounds_toArray, List.set_cons_zero, List.set_cons_succ])
                refine Draws.take 13 (v := ?v22) HS.out rfl (by kernel_rfl) (fun _ _ _ h => h) (Or.inl ⟨rfl, ?h22⟩) ?r22
                case h22 => intro w' hw'; go_simp; (try with_reducible rfl)
                (try simp only [Act.put, List.setIfInBounds_toArray, List.set_cons_zero, List.set_cons_succ])
                refine Draws.take 14 (v := ?v23) HS.out rfl (by kernel_rfl) (fun _ _ _ h => h) (Or.inl ⟨rfl, ?h23⟩) ?r23
                case h23 => intro w' hw'; go_simp; (try with_reducible rfl)
                (try simp only [Act.put, List.setIfInBounds_toArray, List.set_cons_zero, List.set_cons_succ])
                refine Draws.take 15 HS.out rfl (by kernel_rfl) (fun _ _ _ h => h) (yield_int (fun _ hu => (range5 (own_load hu.1.own HIL.out HIE.out)).2.2.2.1) _ rfl rfl rfl) ?_
                (try simp only [Act.put, List.setIfInBounds_toArray, List.set_cons_zero, List.set_cons_succ])
                refine Draws.take 16 HS.out rfl (by kernel_rfl) (fun _ _ _ h => h) (yield_neq HQ2.out _ _ _ rfl rfl rfl rfl) ?_
                (try simp only [Act.put, List.setIfInBounds_toArray, List.set_cons_zero, List.set_cons_succ])
                refine Draws.take 17 (v := ?v24) HS.out rfl (by kernel_rfl) (fun _ _ _ h => h) (Or.inl ⟨rfl, ?h24⟩) ?r24
                case h24 => intro w' hw'; go_simp; (try with_reducible rfl)
                (try simp only [Act.put, List.setIfInBounds_toArray, List.set_cons_zero, List.set_cons_succ])
                refine Draws.done (by kernel_rfl) ?_
                clear HK HP
                have HK := Lib.hid HS.out.1; have HP := Lib.hid HS.out.2
                clear HS
                go_wp2
                refine Draws.start (S := fun u => KeepH w [(bh, 55, h.l)] (.slice (some ⟨g, 0, none⟩) N cap) L u ∧ PlAt u bm xa na) (n := 12) 13 rfl (by kernel_rfl) ?_
                have HS := Lib.hid (show (fun u => KeepH w [(bh, 55, h.l)] (.slice (some ⟨g, 0, none⟩) N cap) L u ∧ PlAt u bm xa na) _ from ⟨HK.out.drew, HP.out⟩)
                clear HK HP
                refine Draws.take 0 (v := ?v25) HS.out rfl (by kernel_rfl) (fun _ _ _ h => h) (Or.inl ⟨rfl, ?h25⟩) ?r25
                case h25 => intro w' hw'; go_simp; (try with_reducible rfl)
                (try simp only [Act.put, List.setIfInBounds_toArray, List.set_cons_zero, List.set_cons_succ])
                refine Draws.take 1 (v := ?v26) HS.out rfl (by kernel_rfl) (fun _ _ _ h => h) (Or.inl ⟨rfl, ?h26⟩) ?r26
                case h26 => intro w' hw'; go_simp; (try with_reducible rfl)
                (try simp only [Act.put, List.setIfInBounds_toArray, List.set_cons_zero, List.set_cons_succ])
                refine Draws.take 2 (v := ?v27) HS.out rfl (by kernel_rfl) (fun _ _ _ h => h) (Or.inl ⟨rfl, ?h27⟩) ?r27
                case h27 => intro w' hw'; go_simp; (try with_reducible rfl)
                (try simp only [Act.put, List.setIfInBounds_toArray, List.set_cons_zero, List.set_cons_succ])
                refine Draws.take 3 (v := ?v28) HS.out rfl (by kernel_rfl) (fun _ _ _ h => h) (Or.inl ⟨rfl, ?h28⟩) ?r28
                case h28 => intro w' hw'; go_simp; (try with_reducible rfl)
                (try simp only [Act.put, List.setIfInBounds_toArray, List.set_cons_zero, List.set_cons_succ])
                refine Draws.take 4 (v := ?v29) HS.out rfl (by kernel_rfl) (fun _ _ _ h => h) (Or.inl ⟨rfl, ?h29⟩) ?r29
                case h29 => intro w' hw'; go_simp; (try with_reducible rfl)
                (try simp only [Act.put, List.setIfInBounds_toArray, List.set_cons_zero, List.set_cons_succ])
                refine Draws.take 5 (v := ?v30) HS.out rfl (by kernel_rfl) (fun _ _ _ h => h) (Or.inl ⟨rfl, ?h30⟩) ?r30
                case h30 => intro w' hw'; go_simp; (try with_reducible rfl)
                (try simp only [Act.put, List.setIfInBounds_toArray, List.set_cons_zero, List.set_cons_succ])
                refine Draws.take 6 HS.out rfl (by kernel_rfl) (fun _ _ _ h => h) (yield_int (fun _ hu => (range5 (own_load hu.1.own HIL.out HIE.out)).2.2.2.2) _ rfl rfl rfl) ?_
                (try simp only [Act.put, List.setIfInBounds_toArray, List.set_cons_zero, List.set_cons_succ])
                refine Draws.take 7 (v := ?v31) HS.out rfl (by kernel_rfl) (fun _ _ _ h => h) (Or.inl ⟨rfl, ?h31⟩) ?r31
                case h31 => intro w' hw'; go_simp; (try with_reducible rfl)
                (try simp only [Act.put, List.setIfInBounds_toArray, List.set_cons_zero, List.set_cons_succ])
                refine Draws.take 8 HS.out rfl (by kernel_rfl) (fun _ _ _ h => h) (yield_int (fun _ hu => (hu.1.keep.get 0 rfl).five.2.2.2.2) _ rfl rfl rfl) ?_
                (try simp only [Act.put, List.setIfInBounds_toArray, List.set_cons_zero, List.set_cons_succ])
                refine Draws.take 9 HS.out rfl (by kernel_rfl) (fun _ _ _ h => h) (yield_max _ _ rfl rfl rfl rfl) ?_
                (try simp only [Act.put, List.setIfInBounds_toArray, List.set_cons_zero, List.set_cons_succ])
                refine Draws.does 10 rfl (by kernel_rfl) rfl (fun K hK => ?_)
                go_simp
                refine hK.out _ _ (fun _ => HS.out) ?_
                clear hK K
                (try simp only [Act.put, List.setIfInBounds_toArray, List.set_cons_zero, List.set_cons_succ])
                refine Draws.does 11 rfl (by kernel_rfl) rfl (fun K hK => ?_)
                go_simp
                refine hK.out _ _ (fun _ => HS.out) ?_
                clear hK K
                (try simp only [Act.put, List.setIfInBounds_toArray, List.set_cons_zero, List.set_cons_succ])
                refine Draws.does 12 rfl (by kernel_rfl) rfl (fun K hK => ?_)
                refine wp_store_pl HS.out.1 HS.out.2 HIL.out rfl _ _ rfl rfl rfl rfl ?_
                intro u hk hp
                refine hK.out _ _ (fun h => absurd h (by omega)) ?_
                clear hK K HS
                have HK := Lib.hid hk; have HP := Lib.hid hp
                clear hk hp
                (try simp only [Act.put, List.setIfInBounds_toArray, List.set_cons_zero, List.set_cons_succ])
                refine Draws.done (by kernel_rfl) ?_
                go_wp2
                go_roundw
                case rel => exact ⟨m + 1, by omega, by go_num, fun j hj => by
                  rcases Nat.lt_or_ge j m with h1 | h1
                  · exact HU.out j h1
                  · rw [show j = m by omega, HH.out]; exact HCL.out, by
                  have hk := HK.out.tail
                  rw [HIE.out] at hk
                  rw [HJ1.out]
                  exact hk, HP.out⟩
                case measure => simp [intOf]; omega
              · have HQ2 := Lib.hid (show (h.d != x.d) = true by simp [hd])
                obtain ⟨e1, e2⟩ := join_clash (a := xa) HMB.out (by rw [HH.out, hcl]; simp [ha]; exact fun e => hd e.symm)
                have HE1 := Lib.hid e1; have HE2 := Lib.hid e2
                clear hcl ha hd e1 e2
                go_wp2_with (first
                  | (with_reducible refine load_hold (range_below HR.out HK.out.keep.bel HC.out) _ rfl rfl rfl ?_)
                  | (with_reducible refine alloc_zero HK.out.keep 5 h_zero rfl rfl ?_; intro bh u hn0 hk0 hb; have hk := HK.out.of_alloc hn0 hk0 hb; have hp0 := HP.out.below hb; clear HP; have HP := Lib.hid hp0; clear hp0; clear hn0 hk0 hb; clear HK; have HK := Lib.hid hk; clear hk)
                  | (with_reducible refine store_all HK.out.keep 0 5 h_info rfl rfl _ _ rfl rfl rfl rfl (Ho.len _) (zer_length 5) ?_; intro u hk0 hs0; have hp0 := HP.out.store (HK.out.keep.get 0 rfl) hs0; have hk := HK.out.of_store 0 rfl hk0 hs0; clear HP; have HP := Lib.hid hp0; clear hp0 hk0 hs0; simp only [List.set_cons_zero] at hk; clear HK; have HK := Lib.hid hk; clear hk)
                  | (with_reducible refine load_val HK.out.keep 0 rfl _ rfl rfl rfl (Ho.g0 _) (Ho.p0 _) ?_)
                  | (with_reducible refine load_val HK.out.keep 0 rfl _ rfl rfl rfl (Ho.g1 _) (Ho.p1 _) ?_)
                  | (with_reducible refine load_val HK.out.keep 0 rfl _ rfl rfl rfl (Ho.g2 _) (Ho.p2 _) ?_)
                  | (with_reducible refine load_val HK.out.keep 0 rfl _ rfl rfl rfl (Ho.g3 _) (Ho.p3 _) ?_)
                  | (with_reducible refine load_val HK.out.keep 0 rfl _ rfl rfl rfl (Ho.g4 _) (Ho.p4 _) ?_)
                  | (with_reducible refine build_key rfl _ _ rfl rfl rfl ?_)
                  | (with_reducible refine map_hit HP.out HRHA.out HNA.out HIA.out HS1.out HS2.out rfl _ _ rfl rfl rfl ?_))
                refine Draws.start (S := fun u => KeepH w [(bh, 55, h.l)] (.slice (some ⟨g, 0, none⟩) N cap) L u ∧ PlAt u bm xa na) (n := 18) 18 rfl (by kernel_rfl) ?_
                have HS := Lib.hid (show (fun u => KeepH w [(bh, 55, h.l)] (.slice (some ⟨g, 0, none⟩) N cap) L u ∧ PlAt u bm xa na) _ from ⟨HK.out.drew, HP.out⟩)
                refine Draws.take 0 (v := ?v32) HS.out rfl (by kernel_rfl) (fun _ _ _ h => h) (Or.inl ⟨rfl, ?h32⟩) ?r32
                case h32 => intro w' hw'; go_simp; (try with_reducible rfl)
                (try simp only [Act.put, List.setIfInBounds_toArray, List.set_cons_zero, List.set_cons_succ])
                refine Draws.take 1 HS.out rfl (by kernel_rfl) (fun _ _ _ h => h) (yield_int (fun _ hu => (hu.1.keep.get 0 rfl).five.2.2.1) _ rfl rfl rfl) ?_
                (try simp only [Act.put, List.setIfInBounds_toArray, List.set_cons_zero, List.set_cons_succ])
                refine Draws.take 2 (v := ?v33) HS.out rfl (by kernel_rfl) (fun _ _ _ h => h) (Or.inl ⟨rfl, ?h33⟩) ?r33
                case h33 => intro w' hw'; go_simp; (try with_reducible rfl)
                (try simp only [Act.put, List.setIfInBounds_toArray, List.set_cons_zero, List.set_cons_succ])
                refine Draws.take 3 (v := ?v34) HS.out rfl (by kernel_rfl) (fun _ _ _ h => h) (Or.inl ⟨rfl, ?h34⟩) ?r34
                case h34 => intro w' hw'; go_simp; (try with_reducible rfl)
                (try simp only [Act.put, List.setIfInBounds_toArray, List.set_cons_zero, List.set_cons_succ])
                refine Draws.take 4 (v := ?v35) HS.out rfl (by kernel_rfl) (fun _ _ _ h => h) (Or.inl ⟨rfl, ?h35⟩) ?r35
                case h35 => intro w' hw'; go_simp; (try with_reducible rfl)
                (try simp only [Act.put, List.setIfInBounds_toArray, List.set_cons_zero, List.set_cons_succ])
                refine Draws.take 5 (v := ?v36) HS.out rfl (by kernel_rfl) (fun _ _ _ h => h) (Or.inl ⟨rfl, ?h36⟩) ?r36
                case h36 => intro w' hw'; go_simp; (try with_reducible rfl)
                (try simp only [Act.put, List.setIfInBounds_toArray, List.set_cons_zero, List.set_cons_succ])
                refine Draws.take 6 HS.out rfl (by kernel_rfl) (fun _ _ _ h => h) (yield_int (fun _ hu => (range5 (own_load hu.1.own HIL.out HIE.out)).2.2.1) _ rfl rfl rfl) ?_
                (try simp only [Act.put, List.setIfInBounds_toArray, List.set_cons_zero, List.set_cons_succ])
                refine Draws.take 7 HS.out rfl (by kernel_rfl) (fun _ _ _ h => h) (yield_neq HQ1.out _ _ _ rfl rfl rfl rfl) ?_
                (try simp only [Act.put, List.setIfInBounds_toArray, List.set_cons_zero, List.set_cons_succ])
                refine Draws.take 8 (v := ?v37) HS.out rfl (by kernel_rfl) (fun _ _ _ h => h) (Or.inl ⟨rfl, ?h37⟩) ?r37
                case h37 => intro w' hw'; go_simp; (try with_reducible rfl)
                (try simp only [Act.put, List.setIfInBounds_toArray, List.set_cons_zero, List.set_cons_succ])
                refine Draws.take 9 (v := ?v38) HS.out rfl (by kernel_rfl) (fun _ _ _ h => h) (Or.inl ⟨rfl, ?h38⟩) ?r38
                case h38 => intro w' hw'; go_simp; (try with_reducible rfl)
                (try simp only [Act.put, List.setIfInBounds_toArray, List.set_cons_zero, List.set_cons_succ])
                refine Draws.take 10 HS.out rfl (by kernel_rfl) (fun _ _ _ h => h) (yield_int (fun _ hu => (hu.1.keep.get 0 rfl).five.2.2.2.1) _ rfl rfl rfl) ?_
                (try simp only [Act.put, List.setIfInBounds_toArray, List.set_cons_zero, List.set_cons_succ])
                refine Draws.take 11 (v := ?v39) HS.out rfl (by kernel_rfl) (fun _ _ _ h => h) (Or.inl ⟨rfl, ?h39⟩) ?r39
                case h39 => intro w' hw'; go_simp; (try with_reducible rfl)
                (try simp only [Act.put, List.setIfInBounds_toArray, List.set_cons_zero, List.set_cons_succ])
                refine Draws.take 12 (v := ?v40) HS.out rfl (by kernel_rfl) (fun _ _ _ h => h) (Or.inl ⟨rfl, ?h40⟩) ?r40
                case h40 => intro w' hw'; go_simp; (try with_reducible rfl)
                (try simp only [Act.put, List.setIfInBounds_toArray, List.set_cons_zero, List.set_cons_succ])
                refine Draws.take 13 (v := ?v41) HS.out rfl (by kernel_rfl) (fun _ _ _ h => h) (Or.inl ⟨rfl, ?h41⟩) ?r41
                case h41 => intro w' hw'; go_simp; (try with_reducible rfl)
                (try simp only [Act.put, List.setIfInBounds_toArray, List.set_cons_zero, List.set_cons_succ])
                refine Draws.take 14 (v := ?v42) HS.out rfl (by kernel_rfl) (fun _ _ _ h => h) (Or.inl ⟨rfl, ?h42⟩) ?r42
                case h42 => intro w' hw'; go_simp; (try with_reducible rfl)
                (try simp only [Act.put, List.setIfInBounds_toArray, List.set_cons_zero, List.set_cons_succ])
                refine Draws.take 15 HS.out rfl (by kernel_rfl) (fun _ _ _ h => h) (yield_int (fun _ hu => (range5 (own_load hu.1.own HIL.out HIE.out)).2.2.2.1) _ rfl rfl rfl) ?_
                (try simp only [Act.put, List.setIfInBounds_toArray, List.set_cons_zero, List.set_cons_succ])
                refine Draws.take 16 HS.out rfl (by kernel_rfl) (fun _ _ _ h => h) (yield_neq HQ2.out _ _ _ rfl rfl rfl rfl) ?_
                (try simp only [Act.put, List.setIfInBounds_toArray, List.set_cons_zero, List.set_cons_succ])
                refine Draws.take 17 (v := ?v43) HS.out rfl (by kernel_rfl) (fun _ _ _ h => h) (Or.inl ⟨rfl, ?h43⟩) ?r43
                case h43 => intro w' hw'; go_simp; (try with_reducible rfl)
                (try simp only [Act.put, List.setIfInBounds_toArray, List.set_cons_zero, List.set_cons_succ])
                refine Draws.done (by kernel_rfl) ?_
                clear HK HP
                have HK := Lib.hid HS.out.1; have HP := Lib.hid HS.out.2
                clear HS
                go_wp2
                go_ret2
                exact ⟨.slice none 0 0, by rw [HE1.out]; rfl, by rw [HE2.out]; exact Own.nil _ _, HK.out.keep.bel⟩
            · have HQ1 := Lib.hid (show (h.a != x.a) = true by simp [ha])
              obtain ⟨e1, e2⟩ := join_clash (a := xa) HMB.out (by rw [HH.out, hcl]; simp; exact .inl fun e => ha e.symm)
              have HE1 := Lib.hid e1; have HE2 := Lib.hid e2
              clear hcl ha e1 e2
              go_wp2_with (first
                | (with_reducible refine load_hold (range_below HR.out HK.out.keep.bel HC.out) _ rfl rfl rfl ?_)
                | (with_reducible refine alloc_zero HK.out.keep 5 h_zero rfl rfl ?_; intro bh u hn0 hk0 hb; have hk := HK.out.of_alloc hn0 hk0 hb; have hp0 := HP.out.below hb; clear HP; have HP := Lib.hid hp0; clear hp0; clear hn0 hk0 hb; clear HK; have HK := Lib.hid hk; clear hk)
                | (with_reducible refine store_all HK.out.keep 0 5 h_info rfl rfl _ _ rfl rfl rfl rfl (Ho.len _) (zer_length 5) ?_; intro u hk0 hs0; have hp0 := HP.out.store (HK.out.keep.get 0 rfl) hs0; have hk := HK.out.of_store 0 rfl hk0 hs0; clear HP; have HP := Lib.hid hp0; clear hp0 hk0 hs0; simp only [List.set_cons_zero] at hk; clear HK; have HK := Lib.hid hk; clear hk)
                | (with_reducible refine load_val HK.out.keep 0 rfl _ rfl rfl rfl (Ho.g0 _) (Ho.p0 _) ?_)
                | (with_reducible refine load_val HK.out.keep 0 rfl _ rfl rfl rfl (Ho.g1 _) (Ho.p1 _) ?_)
                | (with_reducible refine load_val HK.out.keep 0 rfl _ rfl rfl rfl (Ho.g2 _) (Ho.p2 _) ?_)
                | (with_reducible refine load_val HK.out.keep 0 rfl _ rfl rfl rfl (Ho.g3 _) (Ho.p3 _) ?_)
                | (with_reducible refine load_val HK.out.keep 0 rfl _ rfl rfl rfl (Ho.g4 _) (Ho.p4 _) ?_)
                | (with_reducible refine build_key rfl _ _ rfl rfl rfl ?_)
                | (with_reducible refine map_hit HP.out HRHA.out HNA.out HIA.out HS1.out HS2.out rfl _ _ rfl rfl rfl ?_))
              refine Draws.start (S := fun u => KeepH w [(bh, 55, h.l)] (.slice (some ⟨g, 0, none⟩) N cap) L u ∧ PlAt u bm xa na) (n := 18) 18 rfl (by kernel_rfl) ?_
              have HS := Lib.hid (show (fun u => KeepH w [(bh, 55, h.l)] (.slice (some ⟨g, 0, none⟩) N cap) L u ∧ PlAt u bm xa na) _ from ⟨HK.out.drew, HP.out⟩)
              refine Draws.take 0 (v := ?v44) HS.out rfl (by kernel_rfl) (fun _ _ _ h => h) (Or.inl ⟨rfl, ?h44⟩) ?r44
              case h44 => intro w' hw'; go_simp; (try with_reducible rfl)
              (try simp only [Act.put, List.setIfInBounds_toArray, List.set_cons_zero, List.set_cons_succ])
              refine Draws.take 1 HS.out rfl (by kernel_rfl) (fun _ _ _ h => h) (yield_int (fun _ hu => (hu.1.keep.get 0 rfl).five.2.2.1) _ rfl rfl rfl) ?_
              (try simp only [Act.put, List.setIfInBounds_toArray, List.set_cons_zero, List.set_cons_succ])
              refine Draws.take 2 (v := ?v45) HS.out rfl (by kernel_rfl) (fun _ _ _ h => h) (Or.inl ⟨rfl, ?h45⟩) ?r45
              case h45 => intro w' hw'; go_simp; (try with_reducible rfl)
              (try simp only [Act.put, List.setIfInBounds_toArray, List.set_cons_zero, List.set_cons_succ])
              refine Draws.take 3 (v := ?v46) HS.out rfl (by kernel_rfl) (fun _ _ _ h => h) (Or.inl ⟨rfl, ?h46⟩) ?r46
              case h46 => intro w' hw'; go_simp; (try with_reducible rfl)
              (try simp only [Act.put, List.setIfInBounds_toArray, List.set_cons_zero, List.set_cons_succ])
              refine Draws.take 4 (v := ?v47) HS.out rfl (by kernel_rfl) (fun _ _ _ h => h) (Or.inl ⟨rfl, ?h47⟩) ?r47
              case h47 => intro w' hw'; go_simp; (try with_reducible rfl)
              (try simp only [Act.put, List.setIfInBounds_toArray, List.set_cons_zero, List.set_cons_succ])
              refine Draws.take 5 (v := ?v48) HS.out rfl (by kernel_rfl) (fun _ _ _ h => h) (Or.inl ⟨rfl, ?h48⟩) ?r48
              case h48 => intro w' hw'; go_simp; (try with_reducible rfl)
              (try simp only [Act.put, List.setIfInBounds_toArray, List.set_cons_zero, List.set_cons_succ])
              refine Draws.take 6 HS.out rfl (by kernel_rfl) (fun _ _ _ h => h) (yield_int (fun _ hu => (range5 (own_load hu.1.own HIL.out HIE.out)).2.2.1) _ rfl rfl rfl) ?_
              (try simp only [Act.put, List.setIfInBounds_toArray, List.set_cons_zero, List.set_cons_succ])
              refine Draws.take 7 HS.out rfl (by kernel_rfl) (fun _ _ _ h => h) (yield_neq HQ1.out _ _ _ rfl rfl rfl rfl) ?_
              (try simp only [Act.put, List.setIfInBounds_toArray, List.set_cons_zero, List.set_cons_succ])
              refine Draws.take 8 (v := ?v49) HS.out rfl (by kernel_rfl) (fun _ _ _ h => h) (Or.inl ⟨rfl, ?h49⟩) ?r49
              case h49 => intro w' hw'; go_simp; (try with_reducible rfl)
              (try simp only [Act.put, List.setIfInBounds_toArray, List.set_cons_zero, List.set_cons_succ])
              refine Draws.take 9 HS.out rfl (by kernel_rfl) (fun _ _ _ h => h) (Or.inr ⟨rfl, rfl⟩) ?_
              (try simp only [Act.put, List.setIfInBounds_toArray, List.set_cons_zero, List.set_cons_succ])
              refine Draws.take 10 HS.out rfl (by kernel_rfl) (fun _ _ _ h => h) (Or.inr ⟨rfl, rfl⟩) ?_
              (try simp only [Act.put, List.setIfInBounds_toArray, List.set_cons_zero, List.set_cons_succ])
              refine Draws.take 11 HS.out rfl (by kernel_rfl) (fun _ _ _ h => h) (Or.inr ⟨rfl, rfl⟩) ?_
              (try simp only [Act.put, List.setIfInBounds_toArray, List.set_cons_zero, List.set_cons_succ])
              refine Draws.take 12 HS.out rfl (by kernel_rfl) (fun _ _ _ h => h) (Or.inr ⟨rfl, rfl⟩) ?_
              (try simp only [Act.put, List.setIfInBounds_toArray, List.set_cons_zero, List.set_cons_succ])
              refine Draws.take 13 HS.out rfl (by kernel_rfl) (fun _ _ _ h => h) (Or.inr ⟨rfl, rfl⟩) ?_
              (try simp only [Act.put, List.setIfInBounds_toArray, List.set_cons_zero, List.set_cons_succ])
              refine Draws.take 14 HS.out rfl (by kernel_rfl) (fun _ _ _ h => h) (Or.inr ⟨rfl, rfl⟩) ?_
              (try simp only [Act.put, List.setIfInBounds_toArray, List.set_cons_zero, List.set_cons_succ])
              refine Draws.take 15 HS.out rfl (by kernel_rfl) (fun _ _ _ h => h) (Or.inr ⟨rfl, rfl⟩) ?_
              (try simp only [Act.put, List.setIfInBounds_toArray, List.set_cons_zero, List.set_cons_succ])
              refine Draws.take 16 HS.out rfl (by kernel_rfl) (fun _ _ _ h => h) (Or.inr ⟨rfl, rfl⟩) ?_
              (try simp only [Act.put, List.setIfInBounds_toArray, List.set_cons_zero, List.set_cons_succ])
              refine Draws.take 17 (v := ?v50) HS.out rfl (by kernel_rfl) (fun _ _ _ h => h) (Or.inl ⟨rfl, ?h50⟩) ?r50
              case h50 => intro w' hw'; go_simp; (try with_reducible rfl)
              (try simp only [Act.put, List.setIfInBounds_toArray, List.set_cons_zero, List.set_cons_succ])
              refine Draws.done (by kernel_rfl) ?_
              clear HK HP
              have HK := Lib.hid HS.out.1; have HP := Lib.hid HS.out.2
              clear HS
              go_wp2
              go_ret2
              exact ⟨.slice none 0 0, by rw [HE1.out]; rfl, by rw [HE2.out]; exact Own.nil _ _, HK.out.keep.bel⟩
        · obtain rfl : m = nb := by omega
          have htk : xb.take m = xb := by rw [← HLB.out]; exact List.take_length
          rw [htk] at HK hlen hla
          have hall : ∀ j, j < xb.length → clB xa (xb.getD j z5) = false := by rw [HLB.out]; exact HU.out
          have hap := jraw_apart (Apart.of_rises HPWA.out) (Apart.of_rises HPWB.out)
          obtain ⟨N, hN⟩ : ∃ N, (jraw xa xb).length = N := ⟨_, rfl⟩
          obtain ⟨A1, c1, hv, _⟩ := own_len HK.out.own hN
          subst hv
          by_cases h16 : 16 < N
          · obtain ⟨e1, e2⟩ := join_full HAB.out hall (by omega)
            have HE1 := Lib.hid e1; have HE2 := Lib.hid e2
            have hi : (16 : Int) < (N : Int) := by omega
            clear e1 e2 hall hap hN hlen hla htl htk h16
            go_wp2
            go_ret2
            exact ⟨.slice none 0 0, by rw [HE1.out]; rfl, by rw [HE2.out]; exact Own.nil _ _, HK.out.keep.bel⟩
          · obtain ⟨e1, e2⟩ := join_good HAB.out hall (by omega)
            have HE1 := Lib.hid e1; have HE2 := Lib.hid e2
            have hi : ¬ (16 : Int) < (N : Int) := by omega
            have HAP := Lib.hid hap
            have HLEN := Lib.hid (show (jraw xa xb).length ≤ 40 by omega)
            clear e1 e2 hall hap hN hlen hla htl htk h16
            go_wp2_with (first
              | (go_at_call 96; (refine (sort_any _ w.heap.size _ _ HK.out.own HK.out.keep.bel.size (by have := HLEN.out; omega) HAP.out).mono ?_); rintro e u ⟨rfl, ho, hb⟩; have hk := HK.out.re ho hb; clear ho hb; clear HK; have HK := Lib.hid hk; clear hk))
            go_ret2
            exact ⟨_, by rw [HE1.out]; rfl, by rw [HE2.out]; exact HK.out.own, HK.out.keep.bel⟩
end Go.Proofs.YtofngihdnjgmeaaGreat

namespace Go.Proofs.YtofngihdnjgmeaaGreat
set_option maxRecDepth 100000

/-- What two know of one name. -/
def comb : Option Ho → Option Ho → Option Ho
  | none, o => o
  | some x, none => some x
  | some x, some y => some (setS x (max x.s y.s))
def joinJ (a b : List Ho) : List Ho := isort (jraw a b)
theorem joinJ_rises {a b : List Ho} (ha : a.Pairwise AH) (hb : b.Pairwise AH) : (joinJ a b).Pairwise AH := isort_rises (jraw_apart (Apart.of_rises ha) (Apart.of_rises hb))
theorem mem_joinJ {a b : List Ho} {z : Ho} : z ∈ joinJ a b ↔ z ∈ jraw a b := (isort_perm _).mem_iff
theorem joinJ_length (a b : List Ho) : (joinJ a b).length = (jraw a b).length := (isort_perm _).length_eq
theorem fnd_of_mem {l : List Ho} (hl : l.Pairwise AH) {z : Ho} {k n : Int} (hz : z ∈ l) (h1 : z.r = k) (h2 : z.n = n) : fnd l k n = some z := by
  subst h1; subst h2; exact fnd_mem hl hz
theorem fnd_join {a b : List Ho} (ha : a.Pairwise AH) (hb : b.Pairwise AH) (k n : Int) : fnd (joinJ a b) k n = comb (fnd a k n) (fnd b k n) := by
  have hj := joinJ_rises ha hb
  cases hfa : fnd a k n with
  | some x =>
    obtain ⟨hx, e1, e2⟩ := fnd_name hfa
    have hm : upd b x ∈ joinJ a b := mem_joinJ.2 (mem_jraw.2 (.inl ⟨x, hx, rfl⟩))
    have hu := upd_name b x
    rw [fnd_of_mem hj hm (by rw [hu.1, e1]) (by rw [hu.2.1, e2])]
    cases hfb : fnd b k n with
    | none => rw [upd_none (by rw [e1, e2]; exact hfb)]; rfl
    | some y => rw [upd_some (by rw [e1, e2]; exact hfb)]; rfl
  | none =>
    cases hfb : fnd b k n with
    | some y =>
      obtain ⟨hy, e1, e2⟩ := fnd_name hfb
      have hm : y ∈ joinJ a b := mem_joinJ.2 (mem_jraw.2 (.inr ⟨hy, fun x hx hs => fnd_none hfa hx ⟨hs.1.trans e1, hs.2.trans e2⟩⟩))
      rw [fnd_of_mem hj hm e1 e2]
      rfl
    | none =>
      show fnd (joinJ a b) k n = none
      rw [fnd, List.find?_eq_none]
      intro z hz e
      have e := nm_iff.1 e
      rcases mem_jraw.1 (mem_joinJ.1 hz) with ⟨x, hx, rfl⟩ | ⟨h1, _⟩
      · rw [(upd_name b x).1, (upd_name b x).2.1] at e
        exact fnd_none hfa hx e
      · exact fnd_none hfb h1 e
/-- They are of one amount and time, where both have one. -/
def NC (a b : List Ho) : Prop := ∀ k n x y, fnd a k n = some x → fnd b k n = some y → x.a = y.a ∧ x.d = y.d
theorem any_cl {a b : List Ho} (hb : b.Pairwise AH) : b.any (clB a) = false ↔ NC a b := by
  rw [List.any_eq_false]
  constructor
  · intro h k n x y hx hy
    obtain ⟨h1, rfl, rfl⟩ := fnd_name hy
    have := h y h1
    rw [clB_hit hx] at this
    simp at this
    exact this
  · intro h y hy
    cases hf : fnd a y.r y.n with
    | none => rw [clB_miss hf]; decide
    | some x =>
      obtain ⟨h1, h2⟩ := h _ _ x y hf (fnd_mem hb hy)
      rw [clB_hit hf]
      simp [h1, h2]
theorem NC.symm {a b : List Ho} (h : NC a b) : NC b a := fun k n x y hx hy => by
  obtain ⟨h1, h2⟩ := h k n y x hy hx
  exact ⟨h1.symm, h2.symm⟩
theorem join_three {a b : List Ho} (ra : rightsL a = true) (rb : rightsL b = true) :
    (¬ NC a b ∧ joinE a b = 1 ∧ joinLH a b = []) ∨ (NC a b ∧ 16 < (joinJ a b).length ∧ joinE a b = 7 ∧ joinLH a b = []) ∨ (NC a b ∧ (joinJ a b).length ≤ 16 ∧ joinE a b = 0 ∧ joinLH a b = joinJ a b) := by
  have hb := (rights_iff.1 rb).2.2
  have hall : (rightsL a && rightsL b) = true := by rw [ra, rb]; rfl
  cases hc : b.any (clB a) with
  | true =>
    refine .inl ⟨fun h => ?_, ?_⟩
    · rw [(any_cl hb).2 h] at hc; cases hc
    · have e : joinE a b = 1 := by unfold joinE; rw [hall, if_pos rfl, hc]; rfl
      exact ⟨e, by rw [joinLH, e]; rfl⟩
  | false =>
    have hn := (any_cl hb).1 hc
    by_cases h16 : 16 < (jraw a b).length
    · have e : joinE a b = 7 := by unfold joinE; rw [hall, if_pos rfl, hc, if_neg (by decide), if_pos h16]
      exact .inr (.inl ⟨hn, by rw [joinJ_length]; exact h16, e, by rw [joinLH, e]; rfl⟩)
    · have e : joinE a b = 0 := by unfold joinE; rw [hall, if_pos rfl, hc, if_neg (by decide), if_neg h16]
      exact .inr (.inr ⟨hn, by rw [joinJ_length]; omega, e, by rw [joinLH, e]; rfl⟩)
theorem join_not {a b : List Ho} (h : ¬ (rightsL a = true ∧ rightsL b = true)) : joinE a b = 1 ∧ joinLH a b = [] := by
  refine join_bad ?_
  cases h1 : rightsL a <;> cases h2 : rightsL b <;> simp_all
theorem join_zero {a b : List Ho} (h : joinE a b = 0) : rightsL a = true ∧ rightsL b = true ∧ NC a b ∧ (joinJ a b).length ≤ 16 ∧ joinLH a b = joinJ a b := by
  by_cases hr : rightsL a = true ∧ rightsL b = true
  · rcases join_three hr.1 hr.2 with ⟨_, e, _⟩ | ⟨_, _, e, _⟩ | ⟨h1, h2, _, h3⟩
    · omega
    · omega
    · exact ⟨hr.1, hr.2, h1, h2, h3⟩
  · have := (join_not hr).1; omega
theorem joinL_none {a b : List Ho} (h : joinE a b ≠ 0) : joinLH a b = [] := by rw [joinLH, if_neg h]
theorem joinL_lenH (a b : List Ho) : (joinLH a b).length ≤ 16 := by
  by_cases h : joinE a b = 0
  · obtain ⟨_, _, _, h2, h3⟩ := join_zero h
    rw [h3]; exact h2
  · rw [joinL_none h]; simp
theorem comb_right {p q : Option Ho} {z : Ho} (hp : ∀ x, p = some x → rightH x = true) (hq : ∀ y, q = some y → rightH y = true) (h : comb p q = some z) : rightH z = true := by
  cases p with
  | none => exact hq z h
  | some x =>
    cases q with
    | none => injection h with h; subst h; exact hp x rfl
    | some y =>
      injection h with h
      subst h
      have h1 := rightH_iff.1 (hp x rfl)
      have h2 := rightH_iff.1 (hq y rfl)
      exact rightH_iff.2 (by simp only [setS]; omega)
/-- What is joined may be. -/
theorem join_rights {a b : List Ho} (h : joinE a b = 0) : rightsL (joinLH a b) = true := by
  obtain ⟨ra, rb, _, h2, h3⟩ := join_zero h
  obtain ⟨_, ra2, ra3⟩ := rights_iff.1 ra
  obtain ⟨_, rb2, rb3⟩ := rights_iff.1 rb
  rw [h3]
  refine rights_iff.2 ⟨h2, fun z hz => ?_, joinJ_rises ra3 rb3⟩
  have := fnd_mem (joinJ_rises ra3 rb3) hz
  rw [fnd_join ra3 rb3] at this
  exact comb_right (fun x hx => ra2 x (fnd_name hx).1) (fun y hy => rb2 y (fnd_name hy).1) this
end Go.Proofs.YtofngihdnjgmeaaGreat
