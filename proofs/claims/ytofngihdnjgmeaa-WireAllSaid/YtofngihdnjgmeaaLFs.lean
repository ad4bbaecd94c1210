/- What the walks of fields stand on: results, yields, holds appended; contracts of headOf and apart. -/
import Derived.Test.YtofngihdnjgmeaaLFp
namespace Go.Proofs.Ytofngihdnjgmeaa
set_option maxRecDepth 100000
open Go.ChangeShapes Go.WideShapes Go.ChangeAt Go.RowKit

section
variable {w u : World} {l : List (Nat × TypeId × List Value)} {rows : List (Option Addr × Nat × List Ho)}
theorem results_f1 {fn : Func} {p : Tmp} {ty : TypeId} {d : TypeDesc} {cs : List Value} (h : fn.results = #[.cell p ty]) (hu : Try.prog.underlying ty = some d) (hd : d.isRow = true) (hs : (Try.prog.info? ty).map (·.size) = some cs.length) (tmps : Array Value) (hk : KeepF w l rows u) (i : Nat) {b : Nat}
    (hi : l[i]? = some (b, ty, cs)) (hp : tmps.getD p undef = .pointer (some ⟨b, 0, none⟩)) : (results fn tmps).run Try.prog u = .ok (.agg cs.toArray) u :=
  results_cell_row h tmps u b _ _ (0, 0) d hp (hk.get i hi) hu (by cases d <;> simp_all) (by rw [List.size_toArray]; exact hs)
theorem results_f2 {fn : Func} {p q : Tmp} {ty : TypeId} {d : TypeDesc} {cs : List Value} (h : fn.results = #[.cell p ty, .tmp q]) (hu : Try.prog.underlying ty = some d) (hd : d.isRow = true) (hs : (Try.prog.info? ty).map (·.size) = some cs.length) (tmps : Array Value) (hk : KeepF w l rows u) (i : Nat) {b : Nat} (v : Value)
    (hi : l[i]? = some (b, ty, cs)) (hp : tmps.getD p undef = .pointer (some ⟨b, 0, none⟩)) (hq : tmps.getD q undef = v) : (results fn tmps).run Try.prog u = .ok (.tuple #[.agg cs.toArray, v]) u := by
  have hp' : tmps[p]?.getD undef = .pointer (some ⟨b, 0, none⟩) := by simpa using hp
  have hq' : tmps[q]?.getD undef = v := by simpa using hq
  have hr := run_loadVar_row (P := Try.prog) u b _ ty _ (0, 0) _ (hk.get i hi) hu (by cases d <;> simp_all) (by rw [List.size_toArray]; exact hs)
  simp [results, h, hp', hq', asAddr, hr]
theorem results_f3 {fn : Func} {p q r : Tmp} {ty : TypeId} {d : TypeDesc} {cs : List Value} (h : fn.results = #[.cell p ty, .tmp q, .tmp r]) (hu : Try.prog.underlying ty = some d) (hd : d.isRow = true) (hs : (Try.prog.info? ty).map (·.size) = some cs.length) (tmps : Array Value) (hk : KeepF w l rows u) (i : Nat) {b : Nat} (v v' : Value)
    (hi : l[i]? = some (b, ty, cs)) (hp : tmps.getD p undef = .pointer (some ⟨b, 0, none⟩)) (hq : tmps.getD q undef = v) (hr : tmps.getD r undef = v') : (results fn tmps).run Try.prog u = .ok (.tuple #[.agg cs.toArray, v, v']) u := by
  have hp' : tmps[p]?.getD undef = .pointer (some ⟨b, 0, none⟩) := by simpa using hp
  have hq' : tmps[q]?.getD undef = v := by simpa using hq
  have hr' : tmps[r]?.getD undef = v' := by simpa using hr
  have hr := run_loadVar_row (P := Try.prog) u b _ ty _ (0, 0) _ (hk.get i hi) hu (by cases d <;> simp_all) (by rw [List.size_toArray]; exact hs)
  simp [results, h, hp', hq', hr', asAddr, hr]
end
section
variable {ops : Array Oper} {rest : List Oper} {o : Oper} {a : Act} {w u : World} {l : List (Nat × TypeId × List Value)} {rows : List (Option Addr × Nat × List Ho)} {Q : Exit → Act → World → Prop} {K : Act → World → Prop} {S : World → Prop}
/-- A cell yields the same wherever it is kept. -/
theorem yield_c {ty : TypeId} (ht : cellB ty = true) {ad : Addr} {v : Value} (hS : ∀ u, S u → u.cell? ad = some v) (x : Operand) (ho : o.op = .load ty x) (hx : a.eval x = .pointer (some ad)) (hw : Region.wanted o (yielded ops a.tmps) = true) : YieldsIf Try.prog ops S o v a :=
  .inl ⟨hw, fun u' hu => by
    unfold execOp
    simp only [ho, hx, Sem.run_bind, Sem.run_pure, Result.andThen_ok, run_load_f1 ht (hS u' hu)]⟩
/-- A part of a kept block yields the same wherever it is kept. -/
theorem yield_fr (hk : ∀ u, S u → KeepF w l rows u) (i : Nat) {ty : TypeId} {d : TypeDesc} (hu : Try.prog.underlying ty = some d) (hd : d.isRow = true) {xs : List Value} (hs : (Try.prog.info? ty).map (·.size) = some xs.length)
    (x : Operand) (ho : o.op = .load ty x) {b off : Nat} {t : TypeId} {cs : List Value} (hi : l[i]? = some (b, t, cs)) (hx : a.eval x = .pointer (some ⟨b, off, none⟩)) (hw : Region.wanted o (yielded ops a.tmps) = true) (hr : ∀ j v, xs[j]? = some v → cs[off + j]? = some v) :
    YieldsIf Try.prog ops S o (.agg xs.toArray) a :=
  yieldsIf_load_mid hw ty x ho b off hx xs d (fun u h => ((hk u h).get i hi).range hr) hu hd hs
theorem wp_load_fr (hk : KeepF w l rows u) (i : Nat) {ty : TypeId} {d : TypeDesc} (hu : Try.prog.underlying ty = some d) (hd : d.isRow = true) {xs : List Value} (hs : (Try.prog.info? ty).map (·.size) = some xs.length)
    (x : Operand) (ho : o.op = .load ty x) {b off : Nat} {t : TypeId} {cs : List Value} (hi : l[i]? = some (b, t, cs)) (hx : a.eval x = .pointer (some ⟨b, off, none⟩)) (hr : ∀ j v, xs[j]? = some v → cs[off + j]? = some v)
    (h : K (a.put o.dst (.agg xs.toArray)) u) : o.wp Try.prog a u K Q :=
  wp_load_mid ty x ho b off hx xs d ((hk.get i hi).range hr) hu hd hs h
theorem KeepF.cellAt (hk : KeepF w l rows u) (i : Nat) {b : Nat} {t : TypeId} {cs : List Value} (hi : l[i]? = some (b, t, cs)) {k : Nat} {v : Value} (hv : cs[k]? = some v) : u.cell? ⟨b, k, none⟩ = some v := (hk.get i hi).cell hv
/-- Holds, appended to none: a slice of their own. -/
theorem wp_app_f (hk : KeepF w l rows u) (s x : Operand) (ho : o.op = .call { callee := .builtin .append, args := #[s, x], argTypes := #[31, 31] }) (hs : a.eval s = .slice none 0 0)
    {A : Option Addr} {m c : Nat} {zs : List Ho} (hx : a.eval x = .slice A m c) (hr : Row u A m zs)
    (h : ∀ A' c' u', KeepF w l ((A', zs.length, zs) :: rows) u' → Fresh u.heap.size A' c' zs → K (a.put o.dst (.slice A' zs.length c')) u') : o.wp Try.prog a u K Q := by
  obtain ⟨v', w', hrun, h2, h3, h4⟩ := append_hos u u.heap.size o.type (.slice none 0 0) [] (Own.nil _ _) A m c zs hr (by have := hr.2.1; simp; omega) (Nat.le_refl _)
  rw [List.nil_append] at h2
  obtain ⟨A', c', rfl⟩ := h2.slice
  have hb : Below u.heap.size u w' := (Below.refl _ _).grown h3 (Nat.le_refl _) (by simp [Value.ownBlock])
  unfold Oper.wp execOp
  simp only [ho, resolve, invoke, builtin, Sem.run_bind, Sem.run_pure, Result.andThen_ok, List.map_toArray, List.map_cons, List.map_nil, hs, hx, hrun]
  exact h A' c' w' (hk.own hb h2 (by have := hr.1; have := hr.2.1; omega)) (Fresh.own h2)
theorem app_f (hk : KeepF w l rows u) (hgd : o.guard = none) (s x : Operand) (ho : o.op = .call { callee := .builtin .append, args := #[s, x], argTypes := #[31, 31] }) (hs : a.eval s = .slice none 0 0)
    {A : Option Addr} {m c : Nat} {zs : List Ho} (hx : a.eval x = .slice A m c) (hr : Row u A m zs)
    (h : ∀ A' c' u', KeepF w l ((A', zs.length, zs) :: rows) u' → Fresh u.heap.size A' c' zs → wpList Try.prog ops Q rest (a.put o.dst (.slice A' zs.length c')) u') : wpList Try.prog ops Q (o :: rest) a u :=
  wpList_plain hgd fun _ hK => wp_app_f hk s x ho hs hx hr fun A' c' u' h1 h2 => hK _ _ (h A' c' u' h1 h2)
end

theorem f_zeroP : (Try.prog.info? 33).bind (·.zero) = some (.agg (zP.fd none 0).cells.toArray) := f_zero
theorem f_buildP (W : World) : (Instr.build 33 #[]).run Try.prog W = .ok (.agg (zP.fd none 0).cells.toArray) W := f_build W
theorem Fd.setAllP {p q : Pf} {A B : Option Addr} {c d : Nat} (hp : p.full) (hq : q.full) : spl (p.fd A c).cells 0 (q.fd B d).cells = (q.fd B d).cells := Fd.setAll (f := p.fd A c) (g := q.fd B d) hp hq
theorem Fd.leP {p q : Pf} {A B : Option Addr} {c d : Nat} (hp : p.full) (hq : q.full) : 0 + (q.fd B d).cells.length ≤ (p.fd A c).cells.length := by rw [Pf.len hp, Pf.len hq]; decide
theorem Fd.ltH {p : Pf} {A : Option Addr} {c : Nat} (hp : p.full) : 586 < (p.fd A c).cells.length := by rw [Pf.len hp]; decide
/-! ### headOf. -/
def headC (p : Pf) : List Value := [.string p.nm, .int .i64 p.k, .int .i64 p.e]
theorem hd_build (s : ByteArray) (x y : Int) (W : World) : (Instr.build 78 #[(0, .string s), (1, .int .i64 x), (2, .int .i64 y)]).run Try.prog W = .ok (.agg #[.string s, .int .i64 x, .int .i64 y]) W := by kernel_rfl
theorem hd_zero : (Try.prog.info? 78).bind (·.zero) = some (.agg [.string ByteArray.empty, .int .i64 0, .int .i64 0].toArray) := by kernel_rfl
theorem hd_info (p : Pf) : (Try.prog.info? 78).map (·.size) = some (headC p).length := by rw [show (headC p).length = 3 from rfl]; kernel_rfl
theorem build_hd {ops : Array Oper} {rest : List Oper} {o : Oper} {a : Act} {u : World} {Q : Exit → Act → World → Prop} (hgd : o.guard = none) (x0 x1 x2 : Operand) (ho : o.op = .build 78 #[(0, x0), (1, x1), (2, x2)]) {p : Pf}
    (h0 : a.eval x0 = .string p.nm) (h1 : a.eval x1 = .int .i64 p.k) (h2 : a.eval x2 = .int .i64 p.e)
    (h : wpList Try.prog ops Q rest (a.put o.dst (.agg (headC p).toArray)) u) : wpList Try.prog ops Q (o :: rest) a u :=
  wpList_plain hgd fun K hK => by
    unfold Oper.wp execOp
    simp only [ho, List.map_toArray, List.map_cons, List.map_nil, h0, h1, h2, Sem.run_bind, Sem.run_pure, Result.andThen_ok, hd_build]
    exact hK _ _ h
theorem headC_one (p : Pf) : (headC p).toArray.all (·.oneCell') = true := by simp [headC, Value.oneCell']
theorem headC_put (p : Pf) : spl [.string ByteArray.empty, .int .i64 0, .int .i64 0] 0 (headC p) = headC p := rfl
theorem headC_le (p : Pf) : 0 + (headC p).length ≤ [Value.string ByteArray.empty, .int .i64 0, .int .i64 0].length := Nat.le_refl 3
theorem head_any (p : Pf) (hp : p.full) (A : Option Addr) (c : Nat) (w : World) :
    Calls Try.prog 35 #[.agg (p.fd A c).cells.toArray] w fun e w' => e = .returned (.agg (headC p).toArray) ∧ Below w.heap.size w w' := by
  have HK := Lib.hid (KeepF.start (w := w) (rows := []) (by simp))
  have HF := Lib.hid hp; clear hp
  go_enter Try.func35, Try.ntmps35
  go_wp2_with (first
    | (with_reducible refine box_f HK.out rfl _ rfl rfl ?_; intro b u hk; clear HK; have HK := Lib.hid hk; clear hk)
    | (with_reducible refine alloc_f HK.out hd_zero rfl rfl ?_; intro br u hk; clear HK; have HK := Lib.hid hk; clear hk)
    | (with_reducible refine load_f1 HK.out 1 cbS _ rfl rfl rfl rfl Pf.cn ?_)
    | (with_reducible refine load_f1 HK.out 1 cbI _ rfl rfl rfl rfl Pf.ck ?_)
    | (with_reducible refine load_f1 HK.out 1 cbI _ rfl rfl rfl rfl Pf.ce ?_)
    | (with_reducible refine build_hd (p := p) rfl _ _ _ rfl rfl rfl rfl ?_)
    | (with_reducible refine store_fr HK.out 0 (hd_info p) (headC_one p) rfl rfl _ _ rfl rfl rfl rfl (headC_le p) (headC_put p) ?_; intro u hk; simp only [List.set_cons_zero] at hk; clear HK; have HK := Lib.hid hk; clear hk))
  exact bodyPost_ret (results_f1 rfl Try.underlying78 rfl (hd_info p) _ HK.out 0 rfl rfl) rfl ⟨rfl, HK.out.bel⟩

/-! ### apart. -/
theorem Pf.setH_self (p : Pf) : p.setH p.hs = p := rfl
theorem apart_any (p : Pf) (hp : p.full) (A : Option Addr) (c : Nat) (w : World) (hd : Row w A p.hs.length p.hs) :
    Calls Try.prog 51 #[.agg (p.fd A c).cells.toArray] w fun e w' => ∃ A1 c1, e = .returned (.agg (p.fd A1 c1).cells.toArray) ∧ Row w' A1 p.hs.length p.hs ∧ Fresh w.heap.size A1 c1 p.hs ∧ Below w.heap.size w w' := by
  have HK := Lib.hid (KeepF.start (w := w) (rows := [(A, p.hs.length, p.hs)]) (by simpa using hd))
  have HF := Lib.hid hp; clear hp
  go_enter Try.func51, Try.ntmps51
  go_wp2_with (first
    | (with_reducible refine box_f HK.out rfl _ rfl rfl ?_; intro b u hk; clear HK; have HK := Lib.hid hk; clear hk)
    | (with_reducible refine alloc_f HK.out f_zeroP rfl rfl ?_; intro br u hk; clear HK; have HK := Lib.hid hk; clear hk)
    | (with_reducible refine load_f1 HK.out 1 cbH _ rfl rfl rfl rfl (Pf.cH HF.out) ?_)
    | (with_reducible refine app_f HK.out rfl _ _ rfl rfl rfl (HK.out.rowAt 0 rfl) ?_; intro A1 c1 u hk ho; have HO := Lib.hid (ho.mono HK.out.bel.size); clear ho; clear HK; have HK := Lib.hid hk; clear hk)
    | (with_reducible refine store_f1 HK.out 1 cbH rfl rfl _ _ rfl rfl rfl rfl rfl (Fd.ltH HF.out) (Pf.toH HF.out _ _ _) ?_; intro u hk; simp only [List.set_cons_zero, List.set_cons_succ, Pf.setH_self] at hk; clear HK; have HK := Lib.hid hk; clear hk)
    | (with_reducible refine load_fr HK.out 1 Try.underlying33 rfl (Pf.infoF HF.out) _ rfl rfl rfl rfl Pf.all ?_)
    | (with_reducible refine store_fr HK.out 0 (Pf.infoF HF.out) (Fd.one _) rfl rfl _ _ rfl rfl rfl rfl (Fd.leP zP_full HF.out) (Fd.setAllP zP_full HF.out) ?_; intro u hk; simp only [List.set_cons_zero] at hk; clear HK; have HK := Lib.hid hk; clear hk))
  exact bodyPost_ret (results_f1 rfl Try.underlying33 rfl (Pf.infoF HF.out) _ HK.out 0 rfl rfl) rfl ⟨A1, c1, rfl, HK.out.rowAt 0 rfl, HO.out, HK.out.bel⟩
end Go.Proofs.Ytofngihdnjgmeaa
