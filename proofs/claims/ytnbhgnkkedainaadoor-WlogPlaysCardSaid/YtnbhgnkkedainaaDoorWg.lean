/- What the operations on kept things do; the document's Append and Compact. -/
import Derived.Test.YtnbhgnkkedainaaDoorWf
namespace Go.Proofs.YtnbhgnkkedainaaDoor
open Go.ChangeShapes Go.WideShapes Go.ChangeAt Go.RowKit

section
variable {ops : Array Oper} {rest : List Oper} {o : Oper} {a : Act} {w u u' : World} {F : Nat → Prop} {own ro : List Th} {Q : Exit → Act → World → Prop} {K : Act → World → Prop} {S : World → Prop}
/-- A value, boxed. -/
theorem box_k (hk : Kg w F own ro u) {ty : TypeId} (hgd : o.guard = none) (x : Operand) (ho : o.op = .box ty x) {cs : List Value} (hx : a.eval x = .agg cs.toArray)
    (h : ∀ b u', Kg w F (Th.cel b ty cs :: own) ro u' → wpList Tryd.prog ops Q rest (a.put o.dst (.pointer (some ⟨b, 0, none⟩))) u') : wpList Tryd.prog ops Q (o :: rest) a u :=
  wpList_plain hgd fun K hK => by
    have e : (Instr.box ty (.agg cs.toArray)).run Tryd.prog u = .ok (.pointer (some ⟨u.heap.size, 0, none⟩)) (u.alloc (.cells cs.toArray ty)) := by
      simp [Instr.box, newVar, newRow, newObj, Value.cells]
      rfl
    unfold Oper.wp execOp
    simp only [ho, hx, Sem.run_bind, Sem.run_pure, Result.andThen_ok, e]
    exact hK _ _ (h _ _ (hk.new rfl))
/-- A new variable of zeros. -/
theorem alloc_k (hk : Kg w F own ro u) {ty : TypeId} {cs : List Value} (hz : (Tryd.prog.info? ty).bind (·.zero) = some (.agg cs.toArray)) (hgd : o.guard = none) (ho : o.op = .alloc ty)
    (h : ∀ b u', Kg w F (Th.cel b ty cs :: own) ro u' → wpList Tryd.prog ops Q rest (a.put o.dst (.pointer (some ⟨b, 0, none⟩))) u') : wpList Tryd.prog ops Q (o :: rest) a u :=
  wpList_plain hgd fun K hK => by
    have e : (Instr.alloc ty true (.tuple #[])).run Tryd.prog u = .ok (.pointer (some ⟨u.heap.size, 0, none⟩)) (u.alloc (.cells cs.toArray ty)) := by
      cases hq : Tryd.prog.info? ty with
      | none => simp [hq] at hz
      | some i =>
        simp only [hq, Option.bind_some] at hz
        simp [Instr.alloc, zeroValue, typeInfo, hq, hz, newVar, newRow, newObj, Value.cells]
        rfl
    unfold Oper.wp execOp
    simp only [ho, Sem.run_bind, Sem.run_pure, Result.andThen_ok, e]
    exact hK _ _ (h _ _ (hk.new rfl))
/-- A cell is loaded. -/
theorem wp_load_t {ty : TypeId} (ht : cellT ty = true) (x : Operand) (ho : o.op = .load ty x) {ad : Addr} {v : Value} (hx : a.eval x = .pointer (some ad)) (hc : u.cell? ad = some v) (h : K (a.put o.dst v) u) : o.wp Tryd.prog a u K Q := by
  unfold Oper.wp execOp
  simp only [ho, hx, Sem.run_bind, Sem.run_pure, Result.andThen_ok, run_load_t ht hc]
  exact h
theorem load_k1 (hk : Kg w F own ro u) (i : Nat) {ty : TypeId} (ht : cellT ty = true) (x : Operand) (ho : o.op = .load ty x) {b off : Nat} {t : TypeId} {cs : List Value} (hi : own[i]? = some (Th.cel b t cs)) (hx : a.eval x = .pointer (some ⟨b, off, none⟩)) (hw : Region.wanted o (yielded ops a.tmps) = true) {v : Value} (hv : cs[off]? = some v)
    (h : wpList Tryd.prog ops Q rest (a.put o.dst v) u) : wpList Tryd.prog ops Q (o :: rest) a u :=
  BigFrame.wpList_want hw fun _ hK => wp_load_t ht x ho hx ((hk.celAt i hi).cell hv) (hK _ _ h)
/-- All of a kept block is loaded. -/
theorem load_kr (hk : Kg w F own ro u) (i : Nat) {ty : TypeId} {d : TypeDesc} (hu : Tryd.prog.underlying ty = some d) (hd : d.isRow = true) {t : TypeId} {cs : List Value} {N : Nat} (hs : (Tryd.prog.info? ty).map (·.size) = some N)
    (x : Operand) (ho : o.op = .load ty x) {b : Nat} (hi : own[i]? = some (Th.cel b t cs)) (hl : cs.length = N) (hx : a.eval x = .pointer (some ⟨b, 0, none⟩)) (hw : Region.wanted o (yielded ops a.tmps) = true)
    (h : wpList Tryd.prog ops Q rest (a.put o.dst (.agg cs.toArray)) u) : wpList Tryd.prog ops Q (o :: rest) a u :=
  BigFrame.wpList_want hw fun _ hK => wp_load_mid ty x ho b 0 hx cs d ((hk.celAt i hi).range fun j v hv => by rw [Nat.zero_add]; exact hv) hu hd (by rw [hl]; exact hs) (hK _ _ h)
/-- A cell of a kept block is stored. -/
theorem store_k1 (hk : Kg w F own ro u) (i : Nat) {ty : TypeId} (ht : cellT ty = true) (hgd : o.guard = none) (hd : o.dst = none) (x y : Operand) (ho : o.op = .store ty x y) {b off : Nat} {t : TypeId} {cs es : List Value} {v : Value} (hi : own[i]? = some (Th.cel b t cs))
    (hx : a.eval x = .pointer (some ⟨b, off, none⟩)) (hy : a.eval y = v) (hv : plainW v = true) (hr : off < cs.length) (hds : cs.set off v = es)
    (h : ∀ u', Kg w F (own.set i (Th.cel b t es)) ro u' → wpList Tryd.prog ops Q rest a u') : wpList Tryd.prog ops Q (o :: rest) a u :=
  wpList_plain hgd fun _ hK => wp_store_t (hk.celAt i hi) ht hd x y ho hx hy hv hr (hK _ _ (h _ (hk.setCell i hi off v hds)))
theorem store_kr (hk : Kg w F own ro u) (i : Nat) {ty : TypeId} {xs : List Value} {N : Nat} (hs : (Tryd.prog.info? ty).map (·.size) = some N) (hgd : o.guard = none) (hd : o.dst = none) (x y : Operand) (ho : o.op = .store ty x y)
    {b : Nat} {t : TypeId} {cs : List Value} (hi : own[i]? = some (Th.cel b t cs)) (hx : a.eval x = .pointer (some ⟨b, 0, none⟩)) (hy : a.eval y = .agg xs.toArray) (hr : cs.length = N) (hr2 : xs.length = N) (h1 : xs.toArray.all (·.oneCell') = true)
    (h : ∀ u', Kg w F (own.set i (Th.cel b t xs)) ro u' → wpList Tryd.prog ops Q rest a u') : wpList Tryd.prog ops Q (o :: rest) a u :=
  wpList_plain hgd fun _ hK => wp_store_mid ty x y ho b 0 _ hx hy (by simpa using (hk.celAt i hi).there (o := 0) (n := xs.length) (by omega)) (by simpa [hr2] using hs) h1 (by
    rw [hd]
    simpa [Act.put] using hK _ _ (h _ (hk.setCells i hi 0 xs (spl_all (hr.trans hr2.symm)))))
theorem yield_kr {b : Nat} {t : TypeId} {cs : List Value} (hS : ∀ u, S u → Cel u b t cs) {ty : TypeId} {d : TypeDesc} (hu : Tryd.prog.underlying ty = some d) (hd : d.isRow = true) {N : Nat} (hs : (Tryd.prog.info? ty).map (·.size) = some N) (hl : cs.length = N)
    (x : Operand) (ho : o.op = .load ty x) (hx : a.eval x = .pointer (some ⟨b, 0, none⟩)) (hw : Region.wanted o (yielded ops a.tmps) = true) : YieldsIf Tryd.prog ops S o (.agg cs.toArray) a :=
  yieldsIf_load_mid hw ty x ho b 0 hx cs d (fun u h => (hS u h).range fun j v hv => by rw [Nat.zero_add]; exact hv) hu hd (by rw [hl]; exact hs)
/-- A row of slices, with none in it. -/
def Th.rl (v : Value) (L : List BPart) : Th :=
  ⟨fun k => v.ownBlock = some k, fun u => u.ownsRow 0 34 1 v L.length (prts L), fun h hb => row_stay h hb, fun h hk => (row_lt h hk).1⟩
theorem run_buildL0 (u : World) : (Instr.buildSlice 31 0 #[]).run Tryd.prog u = .ok (.slice (some ⟨u.heap.size, 0, none⟩) 0 0) (u.alloc (.cells #[] 34)) := by
  obtain ⟨i0, hi0, hz0, hz1, hz2⟩ := info_parts s_info
  simp [Instr.buildSlice, run_underlying Tryd.underlying31, sizeOf, typeInfo, hi0, Instr.fill, newRow, newObj]
  rw [show Array.map (fun _ : Nat => (default : Value)) (Array.range 0) = #[] from by simp]
  rfl
theorem buildL_k (hk : Kg w F own ro u) (hgd : o.guard = none) (ho : o.op = .buildSlice 31 0 #[])
    (h : ∀ v u', Kg w F (Th.rl v [] :: own) ro u' → wpList Tryd.prog ops Q rest (a.put o.dst v) u') : wpList Tryd.prog ops Q (o :: rest) a u :=
  wpList_plain hgd fun K hK => by
    have hK := hK _ _ (h (.slice (some ⟨u.heap.size, 0, none⟩) 0 0) _ (hk.add (t := Th.rl (.slice (some ⟨u.heap.size, 0, none⟩) 0 0) []) (below_new u (.cells #[] 34))
      ⟨rfl, .inr ⟨u.heap.size, 0, #[], rfl, Nat.zero_le _, heap_alloc_new u _, Nat.le_refl _, by simp [maxLen], rfl, rfl⟩⟩ (fun k hk => by
        have hk' : some u.heap.size = some k := hk
        injection hk' with hk'
        omega)))
    unfold Oper.wp execOp
    simp only [ho, List.map_toArray, List.map_nil, Sem.run_bind, Sem.run_pure, Result.andThen_ok, run_buildL0]
    exact hK
/-- append(v, x...): a list's slices behind those of a row of one's own. -/
theorem run_push_all {v : Value} {L : List BPart} (hown : u.ownsRow 0 34 1 v L.length (prts L)) {A : Option Addr} {n c : Nat} {M : List BPart} (hM : LL u A n M) (ty : TypeId) (h63 : L.length + n ≤ 1048000) :
    ∃ v' u', (Builtin.append_ #[31, 31] ty #[v, .slice A n c]).run Tryd.prog u = .ok v' u' ∧ u'.ownsRow 0 34 1 v' (L ++ M).length (prts (L ++ M)) ∧ u.grownBy u' v.ownBlock ∧ (v'.ownBlock = v.ownBlock ∨ v'.ownBlock = some u.heap.size) := by
  obtain ⟨i0, hi0, hz0, hz1, hz2⟩ := info_parts s_info
  obtain ⟨h1, h2⟩ := hM
  cases A with
  | none =>
    have hn : n = 0 := by
      rcases h2 with h2 | ⟨b, off, h, _⟩
      · exact h2
      · cases h
    subst hn
    obtain rfl := List.eq_nil_of_length_eq_zero h1
    refine ⟨v, u, ?_, by simpa using hown, World.grownBy.refl u _, .inl rfl⟩
    rcases hown.2 with ⟨rfl, h0⟩ | ⟨g, cap, cur, rfl, _, _, hnc, _⟩
    · simp [Builtin.append_, run_underlying Tryd.underlying31, sizeOf, typeInfo, hi0, Builtin.lenOf, Builtin.firstCells]
    · simp [Builtin.append_, run_underlying Tryd.underlying31, sizeOf, typeInfo, hi0, Builtin.lenOf, Builtin.firstCells, hnc, storeCells]
  | some ad =>
    obtain ⟨v', w', hrun, h4, h5, _, h6⟩ := run_append_own_at (P := Tryd.prog) u 0 31 ty 34 i0 (.slice none 0 0) 1 24 Tryd.underlying31 hi0 hz0 hz1 hz2 rfl (by omega) v L.length (prts L) hown ad n c (prts M)
      (by rw [prts_length, h1, Nat.mul_one])
      (fun j y hy => by
        rcases h2 with h2 | ⟨b, off, h, hc⟩
        · have := (List.getElem?_eq_some_iff.1 hy).1
          rw [prts_length, h1] at this
          omega
        · injection h with h
          subst h
          simp only [prts, List.getElem?_map, Option.map_eq_some_iff] at hy
          obtain ⟨x, hx, rfl⟩ := hy
          rw [Go.WideShapes.add_plain]
          exact (hc j x hx).1)
      (fun y hy => by
        simp only [prts, List.mem_map] at hy
        obtain ⟨x, _, rfl⟩ := hy
        rfl) (by simp only [maxLen]; omega) (by omega) (Nat.zero_le _)
    exact ⟨v', w', hrun, by rw [List.length_append, prts_append, h1]; exact h4, h5, h6⟩
theorem Kg.pushed (h : Kg w F own ro u) (i : Nat) {v v' : Value} {L M : List BPart} (hi : own[i]? = some (Th.rl v L)) (h4 : u'.ownsRow 0 34 1 v' M.length (prts M)) (hg : u.grownBy u' v.ownBlock) (hv : v'.ownBlock = v.ownBlock ∨ v'.ownBlock = some u.heap.size) : Kg w F (own.set i (Th.rl v' M)) ro u' :=
  h.move i hi ⟨hg.os, hg.tape, hg.output, hg.size, fun k hk hn => hg.block k hk fun e => hn e.symm⟩ h4 (fun k hk => by
    have hk' : v'.ownBlock = some k := hk
    rcases hv with h1 | h1
    · exact .inl (h1.symm.trans hk')
    · rw [h1] at hk'; injection hk' with hk'; exact .inr (by omega))
theorem appL_k (hk : Kg w F own ro u) (i : Nat) {v : Value} {L : List BPart} (hi : own[i]? = some (Th.rl v L)) {A : Option Addr} {n : Nat} {M : List BPart} (hM : LL u A n M) (hgd : o.guard = none) (s x : Operand)
    (ho : o.op = .call { callee := .builtin .append, args := #[s, x], argTypes := #[31, 31] }) (hs : a.eval s = v) {c : Nat} (hx : a.eval x = .slice A n c) (h63 : L.length + n ≤ 1048000)
    (h : ∀ v' u', Kg w F (own.set i (Th.rl v' (L ++ M))) ro u' → wpList Tryd.prog ops Q rest (a.put o.dst v') u') : wpList Tryd.prog ops Q (o :: rest) a u :=
  wpList_plain hgd fun _ hK => by
    obtain ⟨v', u', hrun, h4, h5, h6⟩ := run_push_all (c := c) (hk.get i hi) hM o.type h63
    have hK := hK _ _ (h v' u' (hk.pushed i hi h4 h5 h6))
    unfold Oper.wp execOp
    simp only [ho, resolve, invoke, builtin, Sem.run_bind, Sem.run_pure, Result.andThen_ok, List.map_toArray, List.map_cons, List.map_nil, hs, hx, hrun]
    exact hK
/-- A list of one slice, as the walk makes it. -/
theorem ll_one (u : World) {A : Option Addr} {n c : Nat} {p : List UInt8} (hp : p.length = n) (hb : Bys u A p) : LL (u.alloc (.cells #[.slice A n c] 34)) (some ⟨u.heap.size, 0, none⟩) 1 [(A, c, p)] := by
  subst hp
  refine ⟨rfl, .inr ⟨u.heap.size, 0, rfl, fun i x hx => ?_⟩⟩
  match i, hx with
  | 0, hx =>
    simp at hx; subst hx
    exact ⟨(Cel.new u 34 [.slice A p.length c]).cell rfl, hb.below (below_new _ _)⟩
  | i + 1, hx => simp at hx
end
/-! ### The document's log. -/
theorem g_info : (Tryd.prog.info? 33).map (·.size) = some 2 := by kernel_rfl
theorem g_zero : (Tryd.prog.info? 33).bind (·.zero) = some (.agg [.int .i64 0, .slice none 0 0].toArray) := by kernel_rfl
section
variable {w u : World} {F : Nat → Prop} {own ro : List Th}
theorem results_k1 {fn : Func} {p : Tmp} {ty : TypeId} {d : TypeDesc} {cs : List Value} (h : fn.results = #[.cell p ty]) (hu : Tryd.prog.underlying ty = some d) (hd : d.isRow = true) {N : Nat} (hs : (Tryd.prog.info? ty).map (·.size) = some N) (tmps : Array Value) (hk : Kg w F own ro u) (i : Nat) {b : Nat}
    (hi : own[i]? = some (Th.cel b ty cs)) (hl : cs.length = N) (hp : tmps.getD p undef = .pointer (some ⟨b, 0, none⟩)) : (results fn tmps).run Tryd.prog u = .ok (.agg cs.toArray) u :=
  results_cell_row h tmps u b _ _ (0, 0) d hp (hk.celAt i hi) hu (by cases d <;> simp_all) (by rw [List.size_toArray, hl]; exact hs)
theorem results_k2 {fn : Func} {p q : Tmp} {ty : TypeId} {d : TypeDesc} {cs : List Value} (h : fn.results = #[.cell p ty, .tmp q]) (hu : Tryd.prog.underlying ty = some d) (hd : d.isRow = true) {N : Nat} (hs : (Tryd.prog.info? ty).map (·.size) = some N) (tmps : Array Value) (hk : Kg w F own ro u) (i : Nat) {b : Nat} (v : Value)
    (hi : own[i]? = some (Th.cel b ty cs)) (hl : cs.length = N) (hp : tmps.getD p undef = .pointer (some ⟨b, 0, none⟩)) (hq : tmps.getD q undef = v) : (results fn tmps).run Tryd.prog u = .ok (.tuple #[.agg cs.toArray, v]) u := by
  have hp' : tmps[p]?.getD undef = .pointer (some ⟨b, 0, none⟩) := by simpa using hp
  have hq' : tmps[q]?.getD undef = v := by simpa using hq
  have hr := run_loadVar_row (P := Tryd.prog) u b _ ty _ (0, 0) _ (hk.celAt i hi) hu (by cases d <;> simp_all) (by rw [List.size_toArray, hl]; exact hs)
  simp [results, h, hp', hq', asAddr, hr]
end
/-- A record that is too long: nothing changes. -/
theorem radd_long (z : Int) (A : Option Addr) (n c : Nat) (B : Option Addr) (k cb : Nat) (hk : 32768 < k) (w : World) :
    Calls Tryd.prog 13 #[.agg #[.int .i64 z, .slice A n c], .slice B k cb] w fun e w' => e = .returned (.tuple #[.agg #[.int .i64 z, .slice A n c], .int .i64 2]) ∧ Below w.heap.size w w' := by
  have HK := Lib.hid (Kg.start w)
  have i1 : (32768 : Int) < (k : Int) := by omega
  go_enter Tryd.func13, Tryd.ntmps13
  go_wp2_with (first
    | ((with_reducible refine box_k (cs := [.int .i64 z, .slice A n c]) HK.out rfl _ rfl rfl ?_); intro b2 u hk; clear HK; have HK := Lib.hid hk; clear hk)
    | ((with_reducible refine alloc_k HK.out g_zero rfl rfl ?_); intro b4 u hk; clear HK; have HK := Lib.hid hk; clear hk)
    | (with_reducible refine load_kr HK.out 1 Tryd.underlying33 rfl g_info _ rfl rfl rfl rfl rfl ?_)
    | ((with_reducible refine store_kr (xs := [.int .i64 z, .slice A n c]) HK.out 0 g_info rfl rfl _ _ rfl rfl rfl rfl (by simp) (by simp) (by simp [Value.oneCell']) ?_); intro u hk; simp only [List.set_cons_zero] at hk; clear HK; have HK := Lib.hid hk; clear hk))
  refine bodyPost_ret (results_k2 rfl Tryd.underlying33 rfl g_info _ HK.out 0 _ rfl rfl rfl rfl) rfl ?_
  exact ⟨rfl, HK.out.mf.bel⟩
end Go.Proofs.YtnbhgnkkedainaaDoor
