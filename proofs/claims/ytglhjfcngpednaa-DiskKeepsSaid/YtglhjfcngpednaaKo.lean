/- What the operations on kept blocks do: boxes, zeros, loads and stores of a cell or of all, rows that grow, results. -/
import Derived.Test.YtglhjfcngpednaaKf
namespace Go.Proofs.Ytglhjfcngpednaa
open Go.ChangeShapes Go.WideShapes Go.ChangeAt Go.RowKit

section
variable {ops : Array Oper} {rest : List Oper} {o : Oper} {a : Act} {w u : World} {F : Nat → Prop} {l : List (Nat × TypeId × List Value)} {ds : List Ent} {rows : List (Option Addr × List UInt8)} {Q : Exit → Act → World → Prop} {K : Act → World → Prop} {S : World → Prop}
/-- A value, boxed. -/
theorem box_k (hk : Kf w F l ds rows u) {ty : TypeId} (ht : okT ty = true) (hgd : o.guard = none) (x : Operand) (ho : o.op = .box ty x) {cs : List Value} (hx : a.eval x = .agg cs.toArray) (hu : noU cs = true)
    (h : ∀ b u', Kf w F ((b, ty, cs) :: l) ds rows u' → wpList Try.prog ops Q rest (a.put o.dst (.pointer (some ⟨b, 0, none⟩))) u') : wpList Try.prog ops Q (o :: rest) a u :=
  wpList_plain hgd fun K hK => by
    have e : (Instr.box ty (.agg cs.toArray)).run Try.prog u = .ok (.pointer (some ⟨u.heap.size, 0, none⟩)) (u.alloc (.cells cs.toArray ty)) := by
      simp [Instr.box, newVar, newRow, newObj, Value.cells]
      rfl
    unfold Oper.wp execOp
    simp only [ho, hx, Sem.run_bind, Sem.run_pure, Result.andThen_ok, e]
    exact hK _ _ (h _ _ (hk.new ht hu rfl))
/-- A new variable of zeros. -/
theorem alloc_k (hk : Kf w F l ds rows u) {ty : TypeId} (ht : okT ty = true) {cs : List Value} (hz : (Try.prog.info? ty).bind (·.zero) = some (.agg cs.toArray)) (hu : noU cs = true) (hgd : o.guard = none) (ho : o.op = .alloc ty)
    (h : ∀ b u', Kf w F ((b, ty, cs) :: l) ds rows u' → wpList Try.prog ops Q rest (a.put o.dst (.pointer (some ⟨b, 0, none⟩))) u') : wpList Try.prog ops Q (o :: rest) a u :=
  wpList_plain hgd fun K hK => by
    have e : (Instr.alloc ty true (.tuple #[])).run Try.prog u = .ok (.pointer (some ⟨u.heap.size, 0, none⟩)) (u.alloc (.cells cs.toArray ty)) := by
      cases hq : Try.prog.info? ty with
      | none => simp [hq] at hz
      | some i =>
        simp only [hq, Option.bind_some] at hz
        simp [Instr.alloc, zeroValue, typeInfo, hq, hz, newVar, newRow, newObj, Value.cells]
        rfl
    unfold Oper.wp execOp
    simp only [ho, Sem.run_bind, Sem.run_pure, Result.andThen_ok, e]
    exact hK _ _ (h _ _ (hk.new ht hu rfl))
/-- A cell is loaded. -/
theorem wp_load_c {ty : TypeId} (ht : cellB ty = true) (x : Operand) (ho : o.op = .load ty x) {ad : Addr} {v : Value} (hx : a.eval x = .pointer (some ad)) (hc : u.cell? ad = some v) (h : K (a.put o.dst v) u) : o.wp Try.prog a u K Q := by
  unfold Oper.wp execOp
  simp only [ho, hx, Sem.run_bind, Sem.run_pure, Result.andThen_ok, run_load_c ht hc]
  exact h
theorem load_k1 (hk : Kf w F l ds rows u) (i : Nat) {ty : TypeId} (ht : cellB ty = true) (x : Operand) (ho : o.op = .load ty x) {b off : Nat} {t : TypeId} {cs : List Value} (hi : l[i]? = some (b, t, cs)) (hx : a.eval x = .pointer (some ⟨b, off, none⟩)) (hw : Region.wanted o (yielded ops a.tmps) = true) {v : Value} (hv : cs[off]? = some v)
    (h : wpList Try.prog ops Q rest (a.put o.dst v) u) : wpList Try.prog ops Q (o :: rest) a u :=
  BigFrame.wpList_want hw fun _ hK => wp_load_c ht x ho hx ((hk.get i hi).cell hv) (hK _ _ h)
/-- All of a kept block is loaded. -/
theorem load_kr (hk : Kf w F l ds rows u) (i : Nat) {ty : TypeId} {d : TypeDesc} (hu : Try.prog.underlying ty = some d) (hd : d.isRow = true) {t : TypeId} {cs : List Value} {N : Nat} (hs : (Try.prog.info? ty).map (·.size) = some N)
    (x : Operand) (ho : o.op = .load ty x) {b : Nat} (hi : l[i]? = some (b, t, cs)) (hl : cs.length = N) (hx : a.eval x = .pointer (some ⟨b, 0, none⟩)) (hw : Region.wanted o (yielded ops a.tmps) = true)
    (h : wpList Try.prog ops Q rest (a.put o.dst (.agg cs.toArray)) u) : wpList Try.prog ops Q (o :: rest) a u :=
  BigFrame.wpList_want hw fun _ hK => wp_load_mid ty x ho b 0 hx cs d ((hk.get i hi).range fun j v hv => by rw [Nat.zero_add]; exact hv) hu hd (by rw [hl]; exact hs) (hK _ _ h)
/-- A cell of a kept block is stored. -/
theorem store_k1 (hk : Kf w F l ds rows u) (i : Nat) {ty : TypeId} (ht : cellB ty = true) (hgd : o.guard = none) (hd : o.dst = none) (x y : Operand) (ho : o.op = .store ty x y) {b off : Nat} {t : TypeId} {cs es : List Value} {v : Value} (hi : l[i]? = some (b, t, cs))
    (hx : a.eval x = .pointer (some ⟨b, off, none⟩)) (hy : a.eval y = v) (hv : plainV v = true) (hr : off < cs.length) (hds : cs.set off v = es) (hu : noU es = true)
    (h : ∀ u', Kf w F (l.set i (b, t, es)) ds rows u' → wpList Try.prog ops Q rest a u') : wpList Try.prog ops Q (o :: rest) a u :=
  wpList_plain hgd fun _ hK => wp_store_c (hk.get i hi) ht hd x y ho hx hy hv hr (hK _ _ (h _ (hk.setCell i hi off v hds hu)))
theorem wp_store_kr (hk : Kf w F l ds rows u) (i : Nat) {ty : TypeId} {xs : List Value} {N : Nat} (hs : (Try.prog.info? ty).map (·.size) = some N) (hd : o.dst = none) (x y : Operand) (ho : o.op = .store ty x y)
    {b : Nat} {t : TypeId} {cs : List Value} (hi : l[i]? = some (b, t, cs)) (hx : a.eval x = .pointer (some ⟨b, 0, none⟩)) (hy : a.eval y = .agg xs.toArray) (hr : cs.length = N) (hr2 : xs.length = N) (hu : noU xs = true) (h1 : xs.toArray.all (·.oneCell') = true)
    (h : ∀ u', Kf w F (l.set i (b, t, xs)) ds rows u' → K a u') : o.wp Try.prog a u K Q :=
  wp_store_mid ty x y ho b 0 _ hx hy (by simpa using (hk.get i hi).there (o := 0) (n := xs.length) (by omega)) (by simpa [hr2] using hs) h1 (by rw [hd]; simpa [Act.put] using h _ (hk.setCells i hi 0 xs (spl_all (hr.trans hr2.symm)) hu))
theorem store_kr (hk : Kf w F l ds rows u) (i : Nat) {ty : TypeId} {xs : List Value} {N : Nat} (hs : (Try.prog.info? ty).map (·.size) = some N) (hgd : o.guard = none) (hd : o.dst = none) (x y : Operand) (ho : o.op = .store ty x y)
    {b : Nat} {t : TypeId} {cs : List Value} (hi : l[i]? = some (b, t, cs)) (hx : a.eval x = .pointer (some ⟨b, 0, none⟩)) (hy : a.eval y = .agg xs.toArray) (hr : cs.length = N) (hr2 : xs.length = N) (hu : noU xs = true) (h1 : xs.toArray.all (·.oneCell') = true)
    (h : ∀ u', Kf w F (l.set i (b, t, xs)) ds rows u' → wpList Try.prog ops Q rest a u') : wpList Try.prog ops Q (o :: rest) a u :=
  wpList_plain hgd fun _ hK => wp_store_kr hk i hs hd x y ho hi hx hy hr hr2 hu h1 fun u' h' => hK _ _ (h u' h')
/-- A row that is made with none in it. -/
theorem build_k (hk : Kf w F l ds rows u) (hgd : o.guard = none) (ho : o.op = .buildSlice 27 0 #[])
    (h : ∀ v u', Kf w F l (⟨none, 0, 0, v, []⟩ :: ds) rows u' → wpList Try.prog ops Q rest (a.put o.dst v) u') : wpList Try.prog ops Q (o :: rest) a u :=
  build_none (Below.refl _ _) hgd ho fun v u' h1 _ => h v u' (hk.made h1)
/-- A row grows by bytes that lie apart from it. -/
theorem app_k (hk : Kf w F l ds rows u) (i : Nat) {v : Value} {d : List UInt8} (hi : ds[i]? = some ⟨none, 0, 0, v, d⟩) {A : Option Addr} {m : List UInt8} (hA : Bys u A m) {k : Nat} (hm : m.length = k) (hgd : o.guard = none) (s x : Operand)
    (ho : o.op = .call { callee := .builtin .append, args := #[s, x], argTypes := #[27, 27] }) (hs : a.eval s = v) {c : Nat} (hx : a.eval x = .slice A k c) (h63 : d.length + m.length ≤ 1048576)
    (h : ∀ B N c' u', (d ++ m).length = N → N ≤ c' → Kf w F l (ds.set i ⟨none, 0, 0, .slice B N c', d ++ m⟩) rows u' → wpList Try.prog ops Q rest (a.put o.dst (.slice B N c')) u') : wpList Try.prog ops Q (o :: rest) a u :=
  app_mv (hk.entAt i hi).own (Nat.zero_le _) hA hm hgd s x ho hs hx h63 fun v' u' h1 h2 h3 => by
    obtain ⟨B, c', rfl, hc⟩ := h1.slice
    exact h B _ c' u' rfl hc (hk.grew i hi h2 h3 h1)
/-- The same as one operation. -/
theorem wp_build_k (hk : Kf w F l ds rows u) (ho : o.op = .buildSlice 27 0 #[]) (h : ∀ v u', Kf w F l (⟨none, 0, 0, v, []⟩ :: ds) rows u' → K (a.put o.dst v) u') : o.wp Try.prog a u K Q := by
  have hK := h (.slice (some ⟨u.heap.size, 0, none⟩) 0 0) _ (hk.made ⟨below_new _ _, own_new u #[] [] rfl (by simp [maxLen])⟩)
  unfold Oper.wp execOp
  simp only [ho, List.map_toArray, List.map_nil, Sem.run_bind, Sem.run_pure, Result.andThen_ok, run_build0]
  exact hK
theorem wp_app_k (hk : Kf w F l ds rows u) (i : Nat) {v : Value} {d : List UInt8} (hi : ds[i]? = some ⟨none, 0, 0, v, d⟩) {A : Option Addr} {m : List UInt8} (hA : Bys u A m) {k : Nat} (hm : m.length = k) (s x : Operand)
    (ho : o.op = .call { callee := .builtin .append, args := #[s, x], argTypes := #[27, 27] }) (hs : a.eval s = v) {c : Nat} (hx : a.eval x = .slice A k c) (h63 : d.length + m.length ≤ 1048576)
    (h : ∀ B N c' u', (d ++ m).length = N → N ≤ c' → Kf w F l (ds.set i ⟨none, 0, 0, .slice B N c', d ++ m⟩) rows u' → K (a.put o.dst (.slice B N c')) u') : o.wp Try.prog a u K Q := by
  subst hm
  obtain ⟨v', w', hrun, h2, h3, h4⟩ := append_bys u 0 o.type v d (hk.entAt i hi).own A c m hA h63 (Nat.zero_le _)
  obtain ⟨B, c', rfl, hc⟩ := h2.slice
  have hK := h B _ c' w' rfl hc (hk.grew i hi h3 h4 h2)
  unfold Oper.wp execOp
  simp only [ho, resolve, invoke, builtin, Sem.run_bind, Sem.run_pure, Result.andThen_ok, List.map_toArray, List.map_cons, List.map_nil, hs, hx, hrun]
  exact hK
/-- Nothing is asked of rows and disks any more. -/
theorem Kf.plain (h : Kf w F l ds rows u) : Kf w F l [] rows u := ⟨h.mf, h.blk, h.apart, by simp, by simp, by simp, h.row, by simp⟩
theorem Kf.ko (hk : Kf w (fun _ => False) l ds rows u) (i : Nat) {z f : Int} {v : Value} {d : List UInt8} (hi : ds[i]? = some ⟨none, z, f, v, d⟩) : KO w v d u :=
  ⟨hk.mf.bel, (hk.entAt i hi).own.rebase fun k hk' => (hk.cov _ (List.mem_of_getElem? hi) k (.inr hk')).resolve_left id⟩
theorem results_k1 {fn : Func} {p : Tmp} {ty : TypeId} {d : TypeDesc} {cs : List Value} (h : fn.results = #[.cell p ty]) (hu : Try.prog.underlying ty = some d) (hd : d.isRow = true) {N : Nat} (hs : (Try.prog.info? ty).map (·.size) = some N) (tmps : Array Value) (hk : Kf w F l ds rows u) (i : Nat) {b : Nat}
    (hi : l[i]? = some (b, ty, cs)) (hl : cs.length = N) (hp : tmps.getD p undef = .pointer (some ⟨b, 0, none⟩)) : (results fn tmps).run Try.prog u = .ok (.agg cs.toArray) u :=
  results_cell_row h tmps u b _ _ (0, 0) d hp (hk.get i hi) hu (by cases d <;> simp_all) (by rw [List.size_toArray, hl]; exact hs)
theorem results_k2 {fn : Func} {p q : Tmp} {ty : TypeId} {d : TypeDesc} {cs : List Value} (h : fn.results = #[.cell p ty, .tmp q]) (hu : Try.prog.underlying ty = some d) (hd : d.isRow = true) {N : Nat} (hs : (Try.prog.info? ty).map (·.size) = some N) (tmps : Array Value) (hk : Kf w F l ds rows u) (i : Nat) {b : Nat} (v : Value)
    (hi : l[i]? = some (b, ty, cs)) (hl : cs.length = N) (hp : tmps.getD p undef = .pointer (some ⟨b, 0, none⟩)) (hq : tmps.getD q undef = v) : (results fn tmps).run Try.prog u = .ok (.tuple #[.agg cs.toArray, v]) u := by
  have hp' : tmps[p]?.getD undef = .pointer (some ⟨b, 0, none⟩) := by simpa using hp
  have hq' : tmps[q]?.getD undef = v := by simpa using hq
  have hr := run_loadVar_row (P := Try.prog) u b _ ty _ (0, 0) _ (hk.get i hi) hu (by cases d <;> simp_all) (by rw [List.size_toArray, hl]; exact hs)
  simp [results, h, hp', hq', asAddr, hr]
/-- All of a kept block yields the same wherever it is kept. -/
theorem yield_kr {b : Nat} {t : TypeId} {cs : List Value} (hS : ∀ u, S u → Cel u b t cs) {ty : TypeId} {d : TypeDesc} (hu : Try.prog.underlying ty = some d) (hd : d.isRow = true) {N : Nat} (hs : (Try.prog.info? ty).map (·.size) = some N) (hl : cs.length = N)
    (x : Operand) (ho : o.op = .load ty x) (hx : a.eval x = .pointer (some ⟨b, 0, none⟩)) (hw : Region.wanted o (yielded ops a.tmps) = true) : YieldsIf Try.prog ops S o (.agg cs.toArray) a :=
  yieldsIf_load_mid hw ty x ho b 0 hx cs d (fun u h => (hS u h).range fun j v hv => by rw [Nat.zero_add]; exact hv) hu hd (by rw [hl]; exact hs)
end
/-! ### The document's disk. -/
theorem r_info : (Try.prog.info? 29).map (·.size) = some 3 := by kernel_rfl
theorem r_zero : (Try.prog.info? 29).bind (·.zero) = some (.agg [.int .i64 0, .int .i64 0, .slice none 0 0].toArray) := by kernel_rfl
theorem s_info : (Try.prog.info? 31).map (·.size) = some 4 := by kernel_rfl
theorem s_zero : (Try.prog.info? 31).bind (·.zero) = some (.agg [.int .i64 0, .int .i64 0, .int .i64 0, .slice none 0 0].toArray) := by kernel_rfl
theorem r_build (z f : Int) (A : Option Addr) (n c : Nat) (W : World) : (Instr.build 29 #[(0, .int .i64 z), (1, .int .i64 f), (2, .slice A n c)]).run Try.prog W = .ok (.agg #[.int .i64 z, .int .i64 f, .slice A n c]) W := by
  simp [Instr.build, go_sem]
end Go.Proofs.Ytglhjfcngpednaa
