/- Steps that come in, and how long their bytes may be; a row that any bytes are appended to; what WlogPlays keeps between two steps. -/
import Derived.Test.YtnbhgnkkedainaaDoorWl
import Derived.Deep.DeepCutAuto
import Derived.Deep.CutBlock
namespace Go.Proofs.YtnbhgnkkedainaaDoor
open Go.ChangeShapes Go.WideShapes Go.ChangeAt Go.RowKit

/-! ### Steps that come in. -/
theorem weightsAll_mem {H : Type} {P : Program} {e : TypeId} : ∀ {ds : List (DataW H)} {d : DataW H}, d ∈ ds → ∀ n ∈ d.weights P e, n ∈ DataW.weightsAll P e ds
  | d0 :: ds, d, hd, n, hn => by
    simp only [DataW.weightsAll, List.mem_append]
    rcases List.mem_cons.1 hd with rfl | hd
    · exact .inl hn
    · exact .inr (weightsAll_mem hd n hn)
theorem reach_bc {H : Type} {enc : TypeId × Value → H} {W : World} {b fuel : Nat} {sp : Nat → Bool} {held : Bool} {A : Option Addr} {n c : Nat} {x : DataW H × List MemPlace} (hf : DataW.trod enc Tryd.prog W b sp held fuel 34 [.slice A n c] = some x)
    (hz : ∀ y ∈ x.1.weights Tryd.prog 34, y ≤ reachBytes) : n ≤ 140737488351232 := by
  rcases open_ints Tryd.underlying34 Tryd.underlying5 (by kernel_rfl) hf with ⟨hcs, _⟩ | ⟨x0, l, c0, zs, hcs, _, hl, hm, hzs, hx, _, _⟩
  · simp at hcs
    omega
  · simp at hcs
    obtain ⟨rfl, rfl, rfl⟩ := hcs
    have hnz : n ≤ zs.length := by rw [hzs]; split <;> omega
    subst hx
    have h1 := hz (((lits (H := H) .u8 (zs.take n)).length + (lits (H := H) .u8 (zs.drop n)).length) * Tryd.prog.bytesOf 5) (by simp [DataW.weights, Tryd.underlying34])
    rw [show Tryd.prog.bytesOf 5 = 1 by kernel_rfl] at h1
    have h2 : reachBytes = 140737488351232 := by decide
    simp [lits] at h1
    omega
theorem open_doR {H : Type} {enc : TypeId × Value → H} {W : World} {b : Nat} {sp : Nat → Bool} {held : Bool} {fuel : Nat} {c0 c1 c2 c3 : Value} {x : DataW H × List MemPlace} (h : DataW.trod enc Tryd.prog W b sp held fuel 36 [c0, c1, c2, c3] = some x) :
    ∃ s : Sp, [c0, c1, c2, c3] = s.cells ∧ Bys W s.A s.b ∧ s.b.length ≤ s.c ∧ ((∀ y ∈ x.1.weights Tryd.prog 36, y ≤ reachBytes) → s.b.length ≤ 140737488351232) := by
  have ci : Tryd.prog.cellsOf 3 = 1 := by kernel_rfl
  have cb : Tryd.prog.cellsOf 34 = 1 := by kernel_rfl
  obtain ⟨xs, m, _, hxx, _, hn, hel⟩ := DataW.trod_struct d_under h
  obtain ⟨f, g, k, l, hfs, e1, e2, e3, e4⟩ := fields4 d_fields
  injection e1 with e1a e1b
  injection e2 with e2a e2b
  injection e3 with e3a e3b
  injection e4 with e4a e4b
  have hfs' : Tryd.prog.fieldsOf 36 = #[f, g, k, l] := by apply Array.toList_inj.1; rw [hfs]
  rw [hfs'] at hel hn
  have hn4 : xs.length = 4 := by simpa using hn
  have d0 := hel 0 f rfl
  have d1 := hel 1 g rfl
  have d2 := hel 2 k rfl
  have d3 := hel 3 l rfl
  rw [e1a, e1b, ci, List.getElem?_eq_getElem (show 0 < xs.length by omega)] at d0
  rw [e2a, e2b, ci, List.getElem?_eq_getElem (show 1 < xs.length by omega)] at d1
  rw [e3a, e3b, ci, List.getElem?_eq_getElem (show 2 < xs.length by omega)] at d2
  rw [e4a, e4b, cb, List.getElem?_eq_getElem (show 3 < xs.length by omega)] at d3
  obtain ⟨n0, h0, _, _⟩ := DataW.trod_int Tryd.underlying3 d0
  obtain ⟨n1, h1, _, _⟩ := DataW.trod_int Tryd.underlying3 d1
  obtain ⟨n2, h2, _, _⟩ := DataW.trod_int Tryd.underlying3 d2
  have d3' : DataW.trod enc Tryd.prog W b sp held m 34 [c3] = some xs[3] := by simpa using d3
  obtain ⟨A, q, c, bl, h3, hl, hc, _, hb⟩ := open_bc d3'
  simp at h0 h1 h2
  subst h0; subst h1; subst h2; subst h3; subst hl
  refine ⟨⟨n0, n1, n2, A, c, bl⟩, rfl, hb, hc, fun hz => reach_bc d3' fun y hy => hz y ?_⟩
  rw [hxx]
  simp only [DataW.weights, d_under, hfs']
  refine DataW.weights_mem_each (j := 3) (t := 34) (d := xs[3].1) ?_ ?_ y hy
  · simp [e4a]
  · simp [show 3 < xs.length by omega]
theorem open_stepsR {H : Type} {enc : TypeId × Value → H} {W : World} {b b' : Nat} {sp : Nat → Bool} {held : Bool} {v : Value} {d : DataW H} {p : List MemPlace} (hval : Value.okWide Tryd.prog W .any b' 22 v)
    (h : DataW.Trod enc Tryd.prog W b sp held 22 v d p) {ts : List TypeId} {ds : List (DataW H)} (hsz : (DataW.weightsEach Tryd.prog ts ds).all (· ≤ reachBytes) = true) {jj : Nat} (hts : ts[jj]? = some 22) (hds : ds[jj]? = some d) :
    ∃ A n c L, v = .slice A n c ∧ Steps W A n L ∧ ∀ s ∈ L, s.b.length ≤ 140737488351232 := by
  have c4 : Tryd.prog.cellsOf 36 = 4 := by kernel_rfl
  have hzd : ∀ y ∈ d.weights Tryd.prog 22, y ≤ reachBytes := fun y hy => by
    simpa using List.all_eq_true.1 hsz y (DataW.weights_mem_each hts hds y hy)
  obtain ⟨A, n, c, rfl⟩ := okWide_slice Tryd.underlying22 hval
  obtain ⟨fuel, hf⟩ := h
  rcases Deep.open_slice Tryd.underlying22 hf with ⟨hcs, _⟩ | ⟨a, len, cap, m, k, DD, Pl, hcs, _, hl, hm, hmm, hxd, hel⟩
  · simp [Value.cells] at hcs
    obtain ⟨rfl, rfl, rfl⟩ := hcs
    exact ⟨none, 0, 0, [], rfl, ⟨rfl, by simp, .inl rfl⟩, by simp⟩
  · simp [Value.cells] at hcs
    obtain ⟨rfl, rfl, rfl⟩ := hcs
    have hlm : n ≤ m := by rw [hmm]; split <;> omega
    have hd : d = .slice ((List.range n).map DD) ((List.range (m - n)).map fun j => DD (n + j)) := (Prod.mk.inj hxd).1
    have hcell : ∀ i, i < n → ∃ s : Sp, (∀ j v, s.cells[j]? = some v → W.cell? (a.add (i * 4 + j)) = some v) ∧ Bys W s.A s.b ∧ s.b.length ≤ s.c ∧ s.b.length ≤ 140737488351232 := fun i hi => by
      obtain ⟨cs', h1, h2⟩ := hel i (by omega)
      rw [c4] at h1
      unfold World.cells? at h1
      split at h1
      · rw [show List.range 4 = [0, 1, 2, 3] from rfl] at h1
        simp only [List.mapM_cons, List.mapM_nil, Option.bind_eq_bind, Option.bind_eq_some_iff, Option.pure_def, Option.some.injEq] at h1
        obtain ⟨c0, h0, _, ⟨c1, h1', _, ⟨c2, h2', _, ⟨c3, h3', _, rfl, rfl⟩, rfl⟩, rfl⟩, rfl⟩ := h1
        obtain ⟨s, e, hb, hc, hr⟩ := open_doR h2
        refine ⟨s, fun j v hj => ?_, hb, hc, hr fun y hy => hzd y ?_⟩
        · rw [← e] at hj
          rw [Deep.add_add] at h0 h1' h2' h3'
          match j, hj with
          | 0, hj => simp at hj; subst hj; exact h0
          | 1, hj => simp at hj; subst hj; exact h1'
          | 2, hj => simp at hj; subst hj; exact h2'
          | 3, hj => simp at hj; subst hj; exact h3'
          | j + 4, hj => simp at hj
        · rw [hd]
          simp only [DataW.weights, Tryd.underlying22, List.mem_cons, List.mem_append]
          exact .inr (.inl (weightsAll_mem (d := DD i) (List.mem_map.2 ⟨i, List.mem_range.2 hi, rfl⟩) y hy))
      · cases h1
    obtain ⟨f, hfn⟩ := Deep.choose_lt hcell
    refine ⟨some a, n, c, (List.range n).map f, rfl, ⟨by simp, Nat.le_trans hl hm, ?_⟩, fun s hs => ?_⟩
    · rcases Nat.eq_zero_or_pos n with h0 | h0
      · exact .inl h0
      · right
        obtain ⟨b0, off, spot⟩ := a
        have hsp := World.cell?_spot ((hfn 0 h0).1 0 _ rfl)
        have hs2 : spot = none := by simpa [Addr.add] using hsp
        subst hs2
        refine ⟨b0, off, rfl, fun i s hs => ?_⟩
        have hi : i < n := by
          have := (List.getElem?_eq_some_iff.1 hs).1
          simpa using this
        simp only [List.getElem?_map, List.getElem?_range hi, Option.map_some, Option.some.injEq] at hs
        subst hs
        obtain ⟨h1, h2, h3, _⟩ := hfn i hi
        refine ⟨fun j v hj => ?_, h2, h3⟩
        have := h1 j v hj
        rw [Go.WideShapes.add_plain] at this
        rw [Nat.add_assoc]
        exact this
    · obtain ⟨i, hi, rfl⟩ := List.mem_map.1 hs
      exact (hfn i (List.mem_range.1 hi)).2.2.2

/-! ### Rows of any length. -/
theorem append_big (w : World) (base : Nat) (ty : TypeId) (v : Value) (l : List UInt8) (hown : Own w base v l) (A : Option Addr) (c : Nat) (m : List UInt8) (hr : Bys w A m) (h63 : l.length + m.length ≤ 140737488351232) (hbase : base ≤ w.heap.size) :
    ∃ v' w', (Builtin.append_ #[34, 34] ty #[v, .slice A m.length c]).run Tryd.prog w = .ok v' w' ∧ Own w' base v' (l ++ m) ∧ w.grownBy w' v.ownBlock ∧ (v'.ownBlock = v.ownBlock ∨ v'.ownBlock = some w.heap.size) := by
  obtain ⟨i0, hi0, hz0, hz1, hz2⟩ := info_parts b_info
  unfold Own
  rw [List.length_append, bys_append]
  cases A with
  | none =>
    have hm : m = [] := by
      rcases hr with h | ⟨b, off, h, _⟩
      · exact h
      · cases h
    subst hm
    refine ⟨v, w, ?_, by simpa [Own, bys] using hown, World.grownBy.refl w _, .inl rfl⟩
    rcases hown.2 with ⟨rfl, h0⟩ | ⟨g, cap, cur, rfl, _, _, hnc, _⟩
    · simp [Builtin.append_, run_underlying Tryd.underlying34, sizeOf, typeInfo, hi0, Builtin.lenOf, Builtin.firstCells]
    · simp [Builtin.append_, run_underlying Tryd.underlying34, sizeOf, typeInfo, hi0, Builtin.lenOf, Builtin.firstCells, hnc, storeCells]
  | some ad =>
    obtain ⟨v', w', h1, h2, h3, _, h5⟩ := run_append_own_at (P := Tryd.prog) w base 34 ty 5 i0 (.int .u8 0) 1 1 Tryd.underlying34 hi0 hz0 hz1 hz2 rfl (by omega) v l.length (bys l) hown ad m.length c (bys m)
      (by rw [bys_length, Nat.mul_one])
      (fun j u hu => by
        obtain ⟨hj, rfl⟩ := bys_at hu
        obtain ⟨b, off, h, hc⟩ := hr.at hj
        injection h with h
        subst h
        rw [Go.WideShapes.add_plain]; exact hc)
      (bys_one _) (by simp only [maxLen]; omega) (by omega) hbase
    exact ⟨v', w', h1, h2, h3, h5⟩
section
variable {ops : Array Oper} {rest : List Oper} {o : Oper} {a : Act} {w u u' : World} {F : Nat → Prop} {own ro : List Th} {Q : Exit → Act → World → Prop} {S : World → Prop}
theorem appB_big (hk : Kg w F own ro u) (i : Nat) {v : Value} {d : List UInt8} (hi : own[i]? = some (Th.row v d)) {A : Option Addr} {m : List UInt8} (hA : Bys u A m) {k : Nat} (hm : m.length = k) (hgd : o.guard = none) (s x : Operand)
    (ho : o.op = .call { callee := .builtin .append, args := #[s, x], argTypes := #[34, 34] }) (hs : a.eval s = v) {c : Nat} (hx : a.eval x = .slice A k c) (h63 : d.length + m.length ≤ 140737488351232)
    (h : ∀ B N c' u', (d ++ m).length = N → N ≤ c' → Kg w F (own.set i (Th.row (.slice B N c') (d ++ m))) ro u' → wpList Tryd.prog ops Q rest (a.put o.dst (.slice B N c')) u') : wpList Tryd.prog ops Q (o :: rest) a u :=
  wpList_plain hgd fun _ hK => by
    subst hm
    obtain ⟨v', u', hrun, h1, h2, h3⟩ := append_big u 0 o.type v d (hk.rowIn i hi) A c m hA h63 (Nat.zero_le _)
    obtain ⟨B, c', rfl, hc⟩ := h1.slice
    have hk' : Kg w F (own.set i (Th.row (.slice B (d ++ m).length c') (d ++ m))) ro u' := hk.move i hi ⟨h2.os, h2.tape, h2.output, h2.size, fun k hk hn => h2.block k hk fun e => hn e.symm⟩ h1 fun k hk => by
      have hk' : (Value.slice B (d ++ m).length c').ownBlock = some k := hk
      rcases h3 with h4 | h4
      · exact .inl (h4.symm.trans hk')
      · rw [h4] at hk'; injection hk' with hk'; exact .inr (by omega)
    have hK := hK _ _ (h B _ c' u' rfl hc hk')
    unfold Oper.wp execOp
    simp only [ho, resolve, invoke, builtin, Sem.run_bind, Sem.run_pure, Result.andThen_ok, List.map_toArray, List.map_cons, List.map_nil, hs, hx, hrun]
    exact hK
/-- Three of them alone. -/
theorem Kg.three (h : Kg w F own ro u) (i j l : Nat) {x y z : Th} (hi : own[i]? = some x) (hj : own[j]? = some y) (hl : own[l]? = some z) (hij : i ≠ j) (hil : i ≠ l) (hjl : j ≠ l) {ro' : List Th} (hr : ∀ r ∈ ro', r ∈ ro) : Kg w F [x, y, z] ro' u := by
  have hmem : ∀ t ∈ [x, y, z], t ∈ own := fun t ht => by
    simp only [List.mem_cons, List.not_mem_nil, or_false] at ht
    rcases ht with rfl | rfl | rfl
    · exact List.mem_of_getElem? hi
    · exact List.mem_of_getElem? hj
    · exact List.mem_of_getElem? hl
  refine ⟨h.mf, fun t ht => h.all t (hmem t ht), ?_, fun t ht => h.cov t (hmem t ht), fun r h1 => h.look r (hr r h1), fun r h1 t ht => h.free r (hr r h1) t (hmem t ht)⟩
  have hidx : ∀ {a : Nat} {s : Th}, [x, y, z][a]? = some s → own[[i, j, l].getD a 0]? = some s ∧ a < 3 := by
    intro a s ha
    match a, ha with
    | 0, ha => simp at ha; subst ha; exact ⟨hi, by omega⟩
    | 1, ha => simp at ha; subst ha; exact ⟨hj, by omega⟩
    | 2, ha => simp at ha; subst ha; exact ⟨hl, by omega⟩
    | a + 3, ha => simp at ha
  intro a b s t ha hb hab k hs ht
  obtain ⟨ha1, ha2⟩ := hidx ha
  obtain ⟨hb1, hb2⟩ := hidx hb
  refine h.lone _ _ s t ha1 hb1 ?_ k hs ht
  match a, b, ha2, hb2 with
  | 0, 0, _, _ => exact absurd rfl hab
  | 0, 1, _, _ => simpa using hij
  | 0, 2, _, _ => simpa using hil
  | 1, 0, _, _ => simpa using hij.symm
  | 1, 1, _, _ => exact absurd rfl hab
  | 1, 2, _, _ => simpa using hjl
  | 2, 0, _, _ => simpa using hil.symm
  | 2, 1, _, _ => simpa using hjl.symm
  | 2, 2, _, _ => exact absurd rfl hab
/-- A cell of a list that is only read. -/
theorem LL.at {b off n : Nat} {L : List BPart} (h : LL u (some ⟨b, off, none⟩) n L) {k : Nat} {B : Option Addr} {d : Nat} {T : List UInt8} (hk : L[k]? = some (B, d, T)) : u.cell? ⟨b, off + k, none⟩ = some (.slice B T.length d) ∧ Bys u B T := by
  obtain ⟨h1, h2⟩ := h
  rcases h2 with h2 | ⟨b', off', e, h3⟩
  · have := (List.getElem?_eq_some_iff.1 hk).1; omega
  · injection e with e
    injection e with e1 e2
    subst e1; subst e2
    exact h3 k _ hk
/-- A list of which the first ones are left out, to be read. -/
theorem Kg.lowered (h : Kg w F own ro u) (i : Nat) {A : Option Addr} {n c : Nat} {L : List BPart} (hi : ro[i]? = some (Th.ll A n L)) (hc : n ≤ c) {k : Nat} (hk : k ≤ n) : Kg w F own (Th.ll (lowA A c k) (n - k) (L.drop k) :: ro) u := by
  have hm := List.mem_of_getElem? hi
  refine h.also (LL.low (h.ll i hi) hc hk) fun e he q hq hc' => h.free _ hm e he q ?_ hc'
  rcases hq with ⟨h0, a, ha, rfl⟩ | ⟨x, hx, h1⟩
  · refine .inl ⟨by omega, ?_⟩
    unfold lowA at ha
    rw [if_neg (by omega)] at ha
    cases A with
    | none => simp at ha
    | some a' =>
      simp only [Option.map_some, Option.some.injEq] at ha
      subst ha
      exact ⟨a', rfl, by unfold Addr.add; split <;> rfl⟩
  · exact .inr ⟨x, List.mem_of_mem_drop hx, h1⟩
/-- A list that a call made out of one that is read, and one slice more. -/
theorem Kg.added (h : Kg w F own ro u) (i j : Nat) {A A' : Option Addr} {n : Nat} {L : List BPart} {x : BPart} (hi : ro[i]? = some (Th.ll A n L)) (hj : ro[j]? = some (Th.bys x.1 x.2.2)) (hb : Below u.heap.size u u') (hl : LL u' A' (n + 1) (L ++ [x])) (hA : ∀ a, A' = some a → u.heap.size ≤ a.block) : Kg w F own (Th.ll A' (n + 1) (L ++ [x]) :: ro) u' := by
  refine (h.call hb).also hl fun e he q hq hc => ?_
  rcases hq with ⟨_, a, ha, rfl⟩ | ⟨y, hy, h1⟩
  · have := e.lt (h.all e he) hc; have := hA a ha; omega
  · rcases List.mem_append.1 hy with hy | hy
    · exact h.free _ (List.mem_of_getElem? hi) e he q (.inr ⟨y, hy, h1⟩) hc
    · obtain rfl := List.mem_singleton.1 hy
      exact h.free _ (List.mem_of_getElem? hj) e he q h1 hc
/-- Appending a row of the call's own to a log. -/
theorem append_r (h : Kg w (fun _ => False) own ro u) (hw : Nib w) (i j l : Nat) {r rd z : Nat} {f : Int} {v vd : Value} {L : List BPart} {d : List UInt8} (hi : own[i]? = some (Th.lo r rd v L)) (hj : own[j]? = some (Th.dk rd z f vd d)) (hij : i ≠ j) {A : Option Addr} {k c : Nat} {p : List UInt8} (hl : own[l]? = some (Th.row (.slice A k c) p)) (hli : l ≠ i) (hlj : l ≠ j)
    (hp : p.length = k) (hk : k ≤ 32768) (hz : z ≤ 1048576) (hroom : d.length + (8 + k) ≤ z) (hL : L.length ≤ 1000000) (P : List UInt8) (hP : d ++ frm p = P) (N : Nat) (hN : P.length = N) :
    Calls Tryd.prog 14 #[.pointer (some ⟨r, 0, none⟩), .slice A k c] u fun e u' => e = .returned (.int .i64 0) ∧ ∃ v' vd' A' c', Kg w (fun _ => False) ((own.set i (Th.lo r rd v' (L ++ [(A', c', p)]))).set j (Th.dk rd z N vd' P)) ro u' := by
  subst hN; subst hP
  have hb : Own u 0 (.slice A k c) p := h.rowIn l hl
  have hpk : Kg u (fun k => (Th.lo r rd v L).foot k ∨ (Th.dk rd z f vd d).foot k) [Th.lo r rd v L, Th.dk rd z f vd d] [Th.bys A p] u := by
    refine (h.pick2 i j hi hj hij (ro' := []) (by simp)).also (t := Th.bys A p) hb.bys fun e he q hq hc => ?_
    obtain ⟨_, a, ha, rfl⟩ := hq
    have hf : (Th.row (.slice A k c) p).foot a.block := ownBlock_at ha rfl
    simp only [List.mem_cons, List.not_mem_nil, or_false] at he
    rcases he with rfl | rfl
    · exact h.lone l i _ _ hl hi hli _ hf hc
    · exact h.lone l j _ _ hl hj hlj _ hf hc
  refine (append_log r rd z f v vd L d A k c p hp hk hz hroom hL u (hw.below h.mf.bel) hpk).mono ?_
  rintro e u' ⟨he, v', vd', A', c', h2⟩
  exact ⟨he, v', vd', A', c', h.back2 i j hi hj hij h2⟩
end
/-- Between two steps: the log and its disk, and the document's log, in block b, are one. -/
structure Pl (w : World) (r z b : Nat) (m : Nat) (rl N : Nat) (P : List UInt8) (M : List (List UInt8)) (L La : List BPart) (A : Option Addr) (n c : Nat) (v vd : Value) (u : World) : Prop where
  kg : Kg w (fun _ => False) [Th.cel b 33 [.int .i64 z, .slice A n c], Th.lo rl r v L, Th.dk r z N vd P] [Th.ll A n La] u
  tx : txt L = M
  ta : txt La = M
  fp : fls M = P
  pn : P.length = N
  h3 : ∀ p ∈ M, p.length ≤ 300
  hm : M.length ≤ m
  nz : N ≤ z
  nc : n ≤ c
  ml : M.length = n
theorem drop_last {M : List (List UInt8)} {k : Nat} (h : M.length = k + 1) : M.drop k = [M.getD k []] := by
  rw [List.drop_eq_getElem_cons (by omega), List.drop_eq_nil_of_le (by omega)]
  simp [List.getD, h]
theorem u8_wrap (z : Int) : ∃ d : UInt8, IntKind.u8.wrap z = (d.toNat : Int) := by
  have h0 : 0 ≤ IntKind.u8.wrap z ∧ IntKind.u8.wrap z < 256 := by
    rw [IntKind.wrap_u8]
    omega
  exact ⟨UInt8.ofNat (IntKind.u8.wrap z).toNat, (toNat_ofInt h0.1 h0.2).symm⟩
end Go.Proofs.YtnbhgnkkedainaaDoor
