/- Plain arithmetic of layer 6, on: what joining tells. No program is spoken of here. A map from a hold's name to its place, that the call itself has made; a contract of hold.placesByName. -/
import Derived.Test.YtbaccghnneidgaaGreatLHoB
import Derived.Test.YtbaccghnneidgaaGreatLHoLx
import Derived.Maps.OwnSet
import Derived.Maps.Views
import Derived.DeepKeys4
namespace Go.Proofs.YtbaccghnneidgaaGreat

/-- What one knows, with what others know of it. -/
def upd (c : List Ho) (x : Ho) : Ho := match fnd c x.r x.n with
  | some y => setS x (max x.s y.s)
  | none => x
/-- Each of a, with what c knows of it, and then all of c that a has not. -/
def jraw (a c : List Ho) : List Ho := a.map (upd c) ++ c.filter fun y => (fnd a y.r y.n).isNone
/-- a has one of its name, of another amount or time. -/
def clB (a : List Ho) (y : Ho) : Bool := match fnd a y.r y.n with
  | some x => (x.a != y.a) || (x.d != y.d)
  | none => false
def joinE (a b : List Ho) : Int := if rightsL a && rightsL b then (if b.any (clB a) then 1 else if 16 < (jraw a b).length then 7 else 0) else 1
def joinLH (a b : List Ho) : List Ho := if joinE a b = 0 then isort (jraw a b) else []

theorem jraw_nil (a : List Ho) : jraw a [] = a := by
  unfold jraw
  rw [show upd [] = id from rfl]; simp
theorem upd_name (c : List Ho) (x : Ho) : (upd c x).r = x.r ∧ (upd c x).n = x.n ∧ (upd c x).a = x.a ∧ (upd c x).d = x.d := by
  unfold upd setS
  split <;> simp
theorem upd_none {c : List Ho} {x : Ho} (h : fnd c x.r x.n = none) : upd c x = x := by unfold upd; rw [h]
theorem upd_some {c : List Ho} {x y : Ho} (h : fnd c x.r x.n = some y) : upd c x = setS x (max x.s y.s) := by unfold upd; rw [h]
theorem fnd_append (c d : List Ho) (k n : Int) : fnd (c ++ d) k n = (fnd c k n).or (fnd d k n) := by
  unfold fnd
  rw [List.find?_append]
theorem fnd_one (h : Ho) (k n : Int) : fnd [h] k n = if nm k n h then some h else none := by
  unfold fnd
  cases hn : nm k n h <;> simp [hn]
theorem nm_SN {x y : Ho} : nm x.r x.n y = true ↔ SN y x := by rw [nm_iff]; rfl
theorem fnd_none_iff {c : List Ho} {x : Ho} : fnd c x.r x.n = none ↔ ∀ y ∈ c, ¬ SN y x := by
  constructor
  · intro h y hy hs
    exact fnd_none h hy hs
  · intro h
    rw [fnd, List.find?_eq_none]
    intro y hy e
    exact h y hy (nm_SN.1 e)
/-- One that a has not. -/
theorem jraw_new {a c : List Ho} {h : Ho} (hn : fnd a h.r h.n = none) : jraw a (c ++ [h]) = jraw a c ++ [h] := by
  unfold jraw
  have hu : a.map (upd (c ++ [h])) = a.map (upd c) := by
    apply List.map_congr_left
    intro x hx
    have hx' : nm x.r x.n h = false := by
      rw [← Bool.not_eq_true, nm_SN]
      exact fun hs => fnd_none_iff.1 hn x hx hs.symm
    unfold upd
    rw [fnd_append, fnd_one, hx']
    simp
  rw [hu, List.filter_append, List.append_assoc]
  simp [hn]
/-- One that a has. -/
theorem jraw_hit {a c : List Ho} {h : Ho} {i : Nat} (ha : a.Pairwise AH) (hi : i < a.length) (hx : SN (a.getD i z5) h) (hc : ∀ y ∈ c, ¬ SN y h) :
    jraw a (c ++ [h]) = (jraw a c).set i (setS (a.getD i z5) (max (a.getD i z5).s h.s)) ∧ (jraw a c).getD i z5 = a.getD i z5 := by
  have hfa : (fnd a h.r h.n).isNone = false := by
    cases hf : fnd a h.r h.n with
    | none => exact absurd hx (fnd_none_iff.1 hf _ (getD_mem hi))
    | some y => rfl
  have hfc : fnd c (a.getD i z5).r (a.getD i z5).n = none := by
    rw [hx.1, hx.2]
    exact fnd_none_iff.2 hc
  have hl : i < (a.map (upd c)).length := by simpa using hi
  refine ⟨?_, ?_⟩
  · unfold jraw
    rw [List.filter_append]
    have hf1 : [h].filter (fun y => (fnd a y.r y.n).isNone) = [] := by simp [hfa]
    rw [hf1, List.append_nil, List.set_append_left _ _ hl]
    congr 1
    apply List.ext_getElem
    · simp
    · intro j h1 h2
      simp only [List.length_map] at h1
      rw [List.getElem_map, List.getElem_set]
      by_cases hij : i = j
      · subst hij
        rw [if_pos rfl, ← getD_get h1]
        apply upd_some
        rw [fnd_append, hfc, fnd_one, if_pos (nm_SN.2 hx.symm)]
        rfl
      · rw [if_neg hij, List.getElem_map]
        have hns : ¬ SN a[j] h := by
          intro hs
          have h3 := (Apart.of_rises ha).one (List.getElem_mem h1) (getD_mem hi) (hs.trans hx.symm)
          rw [getD_get hi] at h3
          rcases Nat.lt_trichotomy i j with h4 | h4 | h4
          · have := List.pairwise_iff_getElem.1 ha i j hi h1 h4
            rw [h3] at this
            exact AH.irrefl _ this
          · exact hij h4
          · have := List.pairwise_iff_getElem.1 ha j i h1 hi h4
            rw [h3] at this
            exact AH.irrefl _ this
        have hx' : nm a[j].r a[j].n h = false := by
          rw [← Bool.not_eq_true, nm_SN]
          exact fun hs => hns hs.symm
        unfold upd
        rw [fnd_append, fnd_one, hx']
        simp
  · unfold jraw
    rw [getD_get (by simp; omega), List.getElem_append_left (by simpa using hi), List.getElem_map, ← getD_get hi]
    exact upd_none hfc
theorem jraw_length (a c : List Ho) : a.length ≤ (jraw a c).length ∧ (jraw a c).length ≤ a.length + c.length := by
  unfold jraw
  have := List.length_filter_le (fun y => (fnd a y.r y.n).isNone) c
  rw [List.length_append, List.length_map]
  omega
/-- Who is in the join. -/
theorem mem_jraw {a c : List Ho} {z : Ho} : z ∈ jraw a c ↔ (∃ x ∈ a, upd c x = z) ∨ (z ∈ c ∧ ∀ x ∈ a, ¬ SN x z) := by
  unfold jraw
  rw [List.mem_append, List.mem_map, List.mem_filter, Option.isNone_iff_eq_none, fnd_none_iff]
theorem jraw_apart {a c : List Ho} (ha : Apart a) (hc : Apart c) : Apart (jraw a c) := by
  unfold jraw
  unfold Apart at *
  rw [List.pairwise_append]
  refine ⟨?_, hc.sublist List.filter_sublist, ?_⟩
  · rw [List.pairwise_map]
    refine ha.imp fun {x y} h hs => h ?_
    obtain ⟨h1, h2⟩ := hs
    rw [(upd_name c x).1, (upd_name c y).1] at h1
    rw [(upd_name c x).2.1, (upd_name c y).2.1] at h2
    exact ⟨h1, h2⟩
  · intro x hx y hy hs
    obtain ⟨x0, hx0, rfl⟩ := List.mem_map.1 hx
    rw [List.mem_filter, Option.isNone_iff_eq_none, fnd_none_iff] at hy
    obtain ⟨h1, h2⟩ := hs
    rw [(upd_name c x0).1] at h1
    rw [(upd_name c x0).2.1] at h2
    exact hy.2 x0 hx0 ⟨h1, h2⟩
end Go.Proofs.YtbaccghnneidgaaGreat

namespace Go.Proofs.YtbaccghnneidgaaGreat
set_option maxRecDepth 100000
open Go.ChangeShapes Go.WideShapes Go.ChangeAt Go.RowKit

def plR (v : Value) : Option (DataW Unit × List MemPlace) := match v with
  | .int .i64 n => some (.lit (.int .i64 n), [])
  | _ => none
theorem plR_inv {v : Value} {n : Int} {ps : List MemPlace} (h : plR v = some (.lit (.int .i64 n), ps)) : v = .int .i64 n := by
  unfold plR at h
  split at h
  · injection h with h; injection h with h _; injection h with h; injection h with _ h; rw [h]
  · cases h
theorem mp_laid : laidOutB Tryz.prog = true := by kernel_rfl
theorem mp_keyed : Maps.Keyed Tryz.prog 149 :=
  Maps.Keyed.of_law (deep_law_laid mp_laid (m := 3) (by omega) (of_decide_eq_true (by kernel_rfl)) (by kernel_rfl) (by kernel_rfl))
/-- The key's literal. -/
def kl (s v : Int) : Lit := .string (keyBytes [.int .i64 s, .int .i64 v])
def ok64 (n : Int) : Prop := (Lit.int .i64 n).wf = true
theorem ok64_of {n : Int} (h1 : 0 ≤ n) (h2 : n ≤ 1099511627776) : ok64 n := WalkArith.wf_i64 (by omega)
theorem key_under : Tryz.prog.underlying 149 = some (.struct (Tryz.prog.fieldsOf 149)) := by kernel_rfl
theorem key_fields : (Tryz.prog.fieldsOf 149).toList.map (fun f => (f.type, f.offset)) = [(3, 0), (3, 1)] := by kernel_rfl
theorem fields2 {fs : List Field} {x y : TypeId × Nat} (h : fs.map (fun f => (f.type, f.offset)) = [x, y]) : ∃ f g, fs = [f, g] ∧ (f.type, f.offset) = x ∧ (g.type, g.offset) = y := by
  match fs, h with
  | [f, g], h => exact ⟨f, g, rfl, by simpa using h⟩
theorem keyOf_mk {s v : Int} (hs : ok64 s) (hv : ok64 v) : keyOf Tryz.prog 149 (.agg #[.int .i64 s, .int .i64 v]) = some (kl s v) := by
  have h1 : Tryz.prog.keyType 149 = true := by kernel_rfl
  have h2 : (Value.agg #[.int .i64 s, .int .i64 v]).formed Tryz.prog 149 = true := by kernel_rfl
  have h3 : Tryz.prog.keyLits (Tryz.prog.types.size + 1) 149 [.int .i64 s, .int .i64 v] = some [.int .i64 s, .int .i64 v] := by
    have c1 : Tryz.prog.cellsOf 3 = 1 := by kernel_rfl
    have c2 : Tryz.prog.cellsOf 149 = 2 := by kernel_rfl
    obtain ⟨d, hd⟩ : ∃ d, Tryz.prog.types.size + 1 = d + 2 := ⟨Tryz.prog.types.size - 1, by have : 1 ≤ Tryz.prog.types.size := of_decide_eq_true (by kernel_rfl); omega⟩
    rw [hd]
    unfold ok64 at hs hv
    obtain ⟨f1, f2, hf, e1, e2⟩ := fields2 key_fields
    injection e1 with e1a e1b
    injection e2 with e2a e2b
    have hf' : Tryz.prog.fieldsOf 149 = #[f1, f2] := by apply Array.toList_inj.1; rw [hf]
    simp [Program.keyLits, Tryz.underlying3, c1, c2, hs, hv]
  unfold keyOf
  rw [key_under]
  show (if (Tryz.prog.keyType 149 && (Value.agg #[.int .i64 s, .int .i64 v]).formed Tryz.prog 149) = true then (Tryz.prog.keyLits (Tryz.prog.types.size + 1) 149 [.int .i64 s, .int .i64 v]).map (fun ls => Lit.string (keyBytes ls)) else none) = _
  rw [h1, h2, h3]
  rfl
theorem kl_inj {s v s' v' : Int} (h1 : ok64 s) (h2 : ok64 v) (h3 : ok64 s') (h4 : ok64 v') (h : kl s v = kl s' v') : s = s' ∧ v = v' := by
  have e1 := keyOf_mk h1 h2
  have e2 := keyOf_mk h3 h4
  rw [← h] at e2
  have := mp_keyed.inj e1 e2
  injection this with this
  have := congrArg Array.toList this
  simp only [List.cons.injEq, Value.int.injEq, true_and, and_true] at this
  exact this
theorem kl_key (s v : Int) : WideAt.IsKeyLit (kl s v) := trivial
theorem mp_zero (w : World) : (zeroValue 3).run Tryz.prog w = .ok (.int .i64 0) w := by kernel_rfl

/-- Block b is the map of the first m of these holds' names to their places. -/
def PlAt (u : World) (b : Nat) (hs : List Ho) (m : Nat) : Prop :=
  ∃ D : DataW Unit, u.ownsMap Tryz.prog 149 plR b m D ∧ Maps.IsMap D ∧ (∀ j, j < m → Maps.has D (kl (hs.getD j z5).r (hs.getD j z5).n) = true ∧ ∀ z, D.atKey (kl (hs.getD j z5).r (hs.getD j z5).n) z = .lit (.int .i64 (j : Int))) ∧
    ∀ s v, ok64 s → ok64 v → (∀ j, j < m → ¬ ((hs.getD j z5).r = s ∧ (hs.getD j z5).n = v)) → Maps.has D (kl s v) = false
theorem PlAt.is {u : World} {b m : Nat} {hs : List Ho} (h : PlAt u b hs m) : ∃ es c, u.heap[b]? = some (.map es c) := by
  obtain ⟨D, ⟨es, c, hb, _⟩, _⟩ := h
  exact ⟨es, c, hb⟩
theorem PlAt.turn {u u' : World} {b m : Nat} {hs : List Ho} (h : PlAt u b hs m) (hb : u'.heap[b]? = u.heap[b]?) : PlAt u' b hs m := by
  obtain ⟨D, ⟨es, c, h1, h2, h3, h4⟩, h5⟩ := h
  exact ⟨D, ⟨es, c, hb.trans h1, h2, h3, h4⟩, h5⟩
theorem PlAt.lt {u : World} {b m : Nat} {hs : List Ho} (h : PlAt u b hs m) : b < u.heap.size := by
  obtain ⟨es, c, hb⟩ := h.is
  exact (Array.getElem?_eq_some_iff.1 hb).1
theorem PlAt.below {u u' : World} {b m : Nat} {hs : List Ho} (h : PlAt u b hs m) (hb : Below u.heap.size u u') : PlAt u' b hs m := h.turn (hb.block b h.lt)
theorem PlAt.ne {u : World} {b m : Nat} {hs : List Ho} (h : PlAt u b hs m) {g : Nat} {cs : Array Value} {t : TypeId} {fr : Nat × Nat} (hg : u.heap[g]? = some (.cells cs t fr)) : b ≠ g := by
  rintro rfl
  obtain ⟨es, c, hb⟩ := h.is
  rw [hb] at hg
  cases hg
theorem PlAt.store {u u' : World} {b m : Nat} {hs : List Ho} (h : PlAt u b hs m) {g : Nat} {t : TypeId} {R : List Int} (hg : Blk u g t R) (he : ∀ k, k ≠ g → u'.heap[k]? = u.heap[k]?) : PlAt u' b hs m := h.turn (he b (h.ne hg))
theorem PlAt.made (u : World) (hs : List Ho) : PlAt (u.alloc (.map #[] 0)) u.heap.size hs 0 :=
  ⟨.map [], World.ownsMap_made u Tryz.prog 149 plR, Maps.isMap_empty, fun j hj => absurd hj (by omega), fun _ _ _ _ _ => rfl⟩
theorem PlAt.put {u : World} {b m : Nat} {hs : List Ho} (h : PlAt u b hs m) (hm : m < hs.length) (hn : m < 1000) (hr : ∀ x ∈ hs, rightH x = true) (hp : hs.Pairwise AH) :
    ∃ u', (Instr.mapUpdate 145 (.map (some b)) (.agg #[.int .i64 (hs.getD m z5).r, .int .i64 (hs.getD m z5).n]) (.int .i64 (m : Int))).run Tryz.prog u = .ok () u' ∧ PlAt u' b hs (m + 1) ∧ u.mapTurned u' b := by
  obtain ⟨D, h1, h2, h3, h4⟩ := h
  have hok : ∀ j, j < hs.length → ok64 (hs.getD j z5).r ∧ ok64 (hs.getD j z5).n := fun j hj => by
    have := rightH_iff.1 (hr _ (getD_mem hj))
    exact ⟨ok64_of (by omega) (by omega), ok64_of (by omega) (by omega)⟩
  obtain ⟨u', hru, hu, ht⟩ := h1.store mp_keyed Tryz.underlying145 (by unfold maxLen; omega) (keyOf_mk (hok m hm).1 (hok m hm).2) (show plR (.int .i64 (m : Int)) = some (.lit (.int .i64 (m : Int)), []) from rfl)
  refine ⟨u', hru, ⟨_, hu, h2.put _ _, fun j hj => ?_, fun s v hs' hv' hno => ?_⟩, ht⟩
  · rcases Nat.lt_or_ge j m with hjm | hjm
    · have hah : AH (hs.getD j z5) (hs.getD m z5) := by
        rw [getD_get (by omega), getD_get hm]
        exact List.pairwise_iff_getElem.1 hp j m _ _ hjm
      have hne : kl (hs.getD j z5).r (hs.getD j z5).n ≠ kl (hs.getD m z5).r (hs.getD m z5).n := fun e => hah.apart (kl_inj (hok j (by omega)).1 (hok j (by omega)).2 (hok m hm).1 (hok m hm).2 e)
      exact ⟨by rw [Maps.has_put_other hne]; exact (h3 j hjm).1, fun z => by rw [Maps.atKey_put_other hne]; exact (h3 j hjm).2 z⟩
    · have e : j = m := by omega
      subst e
      exact ⟨Maps.has_put_same h2 (kl_key _ _) _, fun z => Maps.atKey_put_same h2 (kl_key _ _) _ z⟩
  · have hne : kl s v ≠ kl (hs.getD m z5).r (hs.getD m z5).n := fun e => by
      obtain ⟨e1, e2⟩ := kl_inj hs' hv' (hok m hm).1 (hok m hm).2 e
      exact hno m (by omega) ⟨e1.symm, e2.symm⟩
    rw [Maps.has_put_other hne]
    exact h4 s v hs' hv' fun j hj => hno j (by omega)
theorem PlAt.hit {u : World} {b m : Nat} {hs : List Ho} (h : PlAt u b hs m) (hr : ∀ x ∈ hs, rightH x = true) (hm : m ≤ hs.length) {j : Nat} (hj : j < m) {s v : Int} (hs' : (hs.getD j z5).r = s) (hv : (hs.getD j z5).n = v) :
    (Instr.lookup 145 (.map (some b)) (.agg #[.int .i64 s, .int .i64 v]) true).run Tryz.prog u = .ok (.tuple #[.int .i64 (j : Int), .bool true]) u := by
  subst hs'; subst hv
  obtain ⟨D, h1, h2, h3, h4⟩ := h
  have := rightH_iff.1 (hr _ (getD_mem (show j < hs.length by omega)))
  obtain ⟨v, ps, hru, hv⟩ := h1.look_ok mp_keyed Tryz.underlying145 (mp_zero u) (show plR (.int .i64 0) = some (.lit (.int .i64 0), []) from rfl) (keyOf_mk (ok64_of (n := (hs.getD j z5).r) (by omega) (by omega)) (ok64_of (n := (hs.getD j z5).n) (by omega) (by omega)))
  rw [(h3 j hj).2] at hv
  rw [hru, (h3 j hj).1, plR_inv hv]
theorem PlAt.miss {u : World} {b m : Nat} {hs : List Ho} (h : PlAt u b hs m) {s v : Int} (h1 : ok64 s) (h2 : ok64 v) (hno : ∀ j, j < m → ¬ ((hs.getD j z5).r = s ∧ (hs.getD j z5).n = v)) :
    (Instr.lookup 145 (.map (some b)) (.agg #[.int .i64 s, .int .i64 v]) true).run Tryz.prog u = .ok (.tuple #[.int .i64 0, .bool false]) u := by
  obtain ⟨D, g1, g2, g3, g4⟩ := h
  have a3 := g4 _ _ h1 h2 hno
  obtain ⟨v, ps, hru, hv'⟩ := g1.look_ok mp_keyed Tryz.underlying145 (mp_zero u) (show plR (.int .i64 0) = some (.lit (.int .i64 0), []) from rfl) (keyOf_mk h1 h2)
  rw [Maps.atKey_of_not_has a3] at hv'
  rw [hru, a3, plR_inv hv']
theorem KeepR.turned {w u u' : World} {l : List (Nat × TypeId × List Int)} (h : KeepR w l u) {b : Nat} (hb : w.heap.size ≤ b) (ht : u.mapTurned u' b) : KeepR w l u' := by
  have hg := ht.grown
  obtain ⟨es, c, _, _, hm, _⟩ := ht
  refine ⟨?_, fun x hx => ⟨(h.blk x hx).1, ?_⟩, h.apart⟩
  · exact ⟨hg.os.trans h.bel.os, hg.tape.trans h.bel.tape, hg.output.trans h.bel.output, Nat.le_trans h.bel.size hg.size, fun k hk => (hg.block k (Nat.lt_of_lt_of_le hk h.bel.size) (fun e => by injection e with e; omega)).trans (h.bel.block k hk)⟩
  · have hx := (h.blk x hx).2
    have hne : some x.1 ≠ some b := fun e => by
      injection e with e
      unfold Blk at hx
      rw [e, hm] at hx
      cases hx
    exact (hg.block x.1 hx.lt hne).trans hx
/-! ### At the operations. -/
theorem run_makeMap_hint (n : Int) (u : World) : (Instr.makeMap 145 (some (.int .i64 n))).run Tryz.prog u = .ok (.map (some u.heap.size)) (u.alloc (.map #[] 0)) := by
  simp [Instr.makeMap, run_underlying Tryz.underlying145, asInt, newObj]
  rfl
theorem map_new {ops : Array Oper} {rest : List Oper} {o : Oper} {a : Act} {w u : World} {l : List (Nat × TypeId × List Int)} {Q : Exit → Act → World → Prop} (hk : KeepR w l u) (hs : List Ho) (hgd : o.guard = none) (x : Operand) (ho : o.op = .makeMap 145 (some x)) {n : Int} (hx : a.eval x = .int .i64 n)
    (h : ∀ b u', w.heap.size ≤ b → KeepR w l u' → PlAt u' b hs 0 → wpList Tryz.prog ops Q rest (a.put o.dst (.map (some b))) u') : wpList Tryz.prog ops Q (o :: rest) a u :=
  wpList_plain hgd fun K hK => by
    have hb : Below u.heap.size u (u.alloc (.map #[] 0)) := (Below.refl _ _).alloc (Nat.le_refl _) _
    have := hK _ _ (h _ _ hk.bel.size (hk.call hb) (PlAt.made u hs))
    unfold Oper.wp
    simp [execOp, ho, hx, run_makeMap_hint, Result.andThen]
    exact this
theorem key_run (p q : Int) (W : World) : (Instr.build 149 #[(0, .int .i64 p), (1, .int .i64 q)]).run Tryz.prog W = .ok (.agg #[.int .i64 p, .int .i64 q]) W := by kernel_rfl
theorem build_key {ops : Array Oper} {rest : List Oper} {o : Oper} {a : Act} {u : World} {Q : Exit → Act → World → Prop} (hgd : o.guard = none) (x y : Operand) (ho : o.op = .build 149 #[(0, x), (1, y)]) {p q : Int}
    (hx : a.eval x = .int .i64 p) (hy : a.eval y = .int .i64 q)
    (h : wpList Tryz.prog ops Q rest (a.put o.dst (.agg #[.int .i64 p, .int .i64 q])) u) : wpList Tryz.prog ops Q (o :: rest) a u :=
  wpList_plain hgd fun K hK => by
    unfold Oper.wp execOp
    simp only [ho, List.map_toArray, List.map_cons, List.map_nil, hx, hy, Sem.run_bind, Sem.run_pure, Result.andThen_ok, key_run]
    exact hK _ _ h
theorem map_put {ops : Array Oper} {rest : List Oper} {o : Oper} {a : Act} {w u : World} {l : List (Nat × TypeId × List Int)} {Q : Exit → Act → World → Prop} (hk : KeepR w l u) {b m : Nat} {hs : List Ho} (hm : PlAt u b hs m) (hw : w.heap.size ≤ b) (hml : m < hs.length) (hn : m < 1000) (hr : ∀ x ∈ hs, rightH x = true) (hp : hs.Pairwise AH) {h0 : Ho} (hh : hs.getD m z5 = h0)
    (hgd : o.guard = none) (mm x v : Operand) (ho : o.op = .mapUpdate 145 mm x v) (hd : o.dst = none) (em : a.eval mm = .map (some b)) (ex : a.eval x = .agg #[.int .i64 h0.r, .int .i64 h0.n]) (ev : a.eval v = .int .i64 (m : Int))
    (h : ∀ u', KeepR w l u' → PlAt u' b hs (m + 1) → wpList Tryz.prog ops Q rest a u') : wpList Tryz.prog ops Q (o :: rest) a u :=
  wpList_plain hgd fun K hK => by
    obtain ⟨u', hru, hm', ht⟩ := hm.put hml hn hr hp
    rw [hh] at hru
    have := hK _ _ (h u' (hk.turned hw ht) hm')
    have e : a.put o.dst undef = a := by rw [hd]; rfl
    rw [← e] at this
    unfold Oper.wp
    simp [execOp, ho, em, ex, ev, hru, Result.andThen]
    exact this
theorem map_hit {ops : Array Oper} {rest : List Oper} {o : Oper} {a : Act} {u : World} {Q : Exit → Act → World → Prop} {b m : Nat} {hs : List Ho} (hm : PlAt u b hs m) (hr : ∀ x ∈ hs, rightH x = true) (hml : m ≤ hs.length) {j : Nat} (hj : j < m) {s v : Int} (hs' : (hs.getD j z5).r = s) (hv : (hs.getD j z5).n = v) (hgd : o.guard = none) (mm x : Operand) (ho : o.op = .lookup 145 mm x true)
    (em : a.eval mm = .map (some b)) (ex : a.eval x = .agg #[.int .i64 s, .int .i64 v]) (h : wpList Tryz.prog ops Q rest (a.put o.dst (.tuple #[.int .i64 (j : Int), .bool true])) u) : wpList Tryz.prog ops Q (o :: rest) a u :=
  wpList_plain hgd fun K hK => by
    unfold Oper.wp
    simp [execOp, ho, em, ex, hm.hit hr hml hj hs' hv, Result.andThen]
    exact hK _ _ h
theorem map_miss {ops : Array Oper} {rest : List Oper} {o : Oper} {a : Act} {u : World} {Q : Exit → Act → World → Prop} {b m : Nat} {hs : List Ho} (hm : PlAt u b hs m) {s v : Int} (h1 : ok64 s) (h2 : ok64 v) (hno : ∀ j, j < m → ¬ ((hs.getD j z5).r = s ∧ (hs.getD j z5).n = v)) (hgd : o.guard = none) (mm x : Operand) (ho : o.op = .lookup 145 mm x true)
    (em : a.eval mm = .map (some b)) (ex : a.eval x = .agg #[.int .i64 s, .int .i64 v]) (h : wpList Tryz.prog ops Q rest (a.put o.dst (.tuple #[.int .i64 0, .bool false])) u) : wpList Tryz.prog ops Q (o :: rest) a u :=
  wpList_plain hgd fun K hK => by
    unfold Oper.wp
    simp [execOp, ho, em, ex, hm.miss h1 h2 hno, Result.andThen]
    exact hK _ _ h
set_option maxHeartbeats 2000000 in
theorem places_any (A : Option Addr) (n c : Nat) (hs : List Ho) (w : World) (hd : Row w A n hs) (hrt : rightsL hs = true) :
    Calls Tryz.prog 147 #[.slice A n c] w fun e w' => ∃ b, e = .returned (.map (some b)) ∧ PlAt w' b hs n ∧ w.heap.size ≤ b ∧ Below w.heap.size w w' := by
  have HD := Lib.hid hd; have HL := Lib.hid hd.1; have HNB := Lib.hid hd.2.1; clear hd
  have HRH := Lib.hid (rights_iff.1 hrt).2.1; have HPW := Lib.hid (rights_iff.1 hrt).2.2
  clear hrt
  have HK := Lib.hid (KeepR.start w)
  go_enter Tryz.func147, Tryz.ntmps147
  go_wp2_with (first
    | (with_reducible refine map_new HK.out hs rfl _ rfl rfl ?_; intro bm u hw hk hp; have HW := Lib.hid hw; have HP := Lib.hid hp; clear hw hp; clear HK; have HK := Lib.hid hk; clear hk))
  go_loopw [11] (fun i wr => ∃ m : Nat, m ≤ n ∧ i = .int .i64 m ∧ PlAt wr bm hs m ∧ KeepR w [] wr) (fun i _ => n - (intOf i).toNat)
  case atStart => exact ⟨0, by omega, rfl, HP.out, HK.out⟩
  case round =>
    obtain ⟨m, hm, rfl, hp, hk⟩ := hrel
    clear HK HP
    have HK := Lib.hid hk; have HP := Lib.hid hp
    clear hk hp
    by_cases hlt : m < n
    · have hnb := HNB.out
      have HML := Lib.hid (show m < hs.length by have := HL.out; omega)
      have HM1 := Lib.hid (show m < 1000 by omega)
      obtain ⟨b, off, rfl, hr⟩ := HD.out.at hlt
      have hrm := hr m hlt
      clear hr
      obtain ⟨h, hh⟩ : ∃ h, hs.getD m z5 = h := ⟨_, rfl⟩
      rw [hh] at hrm
      have HH := Lib.hid hh
      have HR := Lib.hid hrm; have HC := Lib.hid (range_lt hrm)
      clear hrm hh
      have i1 : (0 : Int) ≤ (m : Int) := by omega
      have i2 : (m : Int) < (n : Int) := by omega
      go_wp2_with (first
        | (with_reducible refine load_hold (range_below HR.out HK.out.bel HC.out) _ rfl rfl rfl ?_)
        | (with_reducible refine alloc_zero HK.out 5 h_zero rfl rfl ?_; intro bh u hn0 hk hb; have hp0 := HP.out.below hb; clear HP; have HP := Lib.hid hp0; clear hp0; clear hn0 hb; clear HK; have HK := Lib.hid hk; clear hk)
        | (with_reducible refine store_all HK.out 0 5 h_info rfl rfl _ _ rfl rfl rfl rfl (Ho.len _) (zer_length 5) ?_; intro u hk hs0; have hp0 := HP.out.store (HK.out.get 0 rfl) hs0; clear HP; have HP := Lib.hid hp0; clear hp0 hs0; simp only [List.set_cons_zero] at hk; clear HK; have HK := Lib.hid hk; clear hk)
        | (with_reducible refine load_val HK.out 0 rfl _ rfl rfl rfl (Ho.g0 _) (Ho.p0 _) ?_)
        | (with_reducible refine load_val HK.out 0 rfl _ rfl rfl rfl (Ho.g1 _) (Ho.p1 _) ?_)
        | (with_reducible refine build_key rfl _ _ rfl rfl rfl ?_)
        | (with_reducible refine map_put HK.out HP.out HW.out HML.out HM1.out HRH.out HPW.out HH.out rfl _ _ _ rfl rfl rfl rfl rfl ?_; intro u hk hp0; clear HP; have HP := Lib.hid hp0; clear hp0; clear HK; have HK := Lib.hid hk; clear hk))
      go_roundw
      case rel => exact ⟨m + 1, by omega, by go_num, HP.out, HK.out.tail⟩
      case measure => simp [intOf]; omega
    · obtain rfl : m = n := by omega
      go_wp2
      go_ret
      exact ⟨bm, rfl, HP.out, HW.out, HK.out.bel⟩
end Go.Proofs.YtbaccghnneidgaaGreat
