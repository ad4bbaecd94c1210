/- Plain arithmetic of layer 6, on: what finding, adding up, reserving, ending and letting go tell. No program is spoken of here.; Contracts of hold.place, Find, Sum and greatest, of the document's Sum, and of the statements' Same.; Contracts of the document's Sum, of hold.greatest, of slices.Clone at holds, and of the statements' Same.; Contracts of what package lock and the document's layer 5 are made of; of New, Right, Write and Pass.; Contracts of hold.Reserve, End and Expire.; Contracts of hold.Expire, and of what the statements call awake.; What the walks of fields stand on: results, yields, holds appended; contracts of headOf and apart.; Contracts of the document's Add, Hand, Write, Pass, Reserve, End and Expire of fields, with layer 5's Write and Pass.; Contracts of field.Same and the document's Same of fields that are the same.; The library's sort at this program: a row of holds, no two of one name, is in order behind it.; Plain arithmetic of layer 6, on: what joining tells. No program is spoken of here.; A map from a hold's name to its place, that the call itself has made; a contract of hold.placesByName.; Plain facts of what a plan makes. -/
import Derived.Test.YtgblnlpfgdbnnaaGreatZ04
namespace Go.Proofs.YtgblnlpfgdbnnaaGreat

/-! ### Finding. -/
theorem nm_iff {k n : Int} {h : Ho} : nm k n h = true ↔ (h.r = k ∧ h.n = n) := by simp [nm]
theorem nm_not {k n : Int} {h : Ho} : nm k n h = false ↔ ¬ (h.r = k ∧ h.n = n) := by rw [← Bool.not_eq_true, nm_iff]
def plc (l : List Ho) (k n : Int) : Int := if l.findIdx (nm k n) < l.length then (l.findIdx (nm k n) : Int) else -1
theorem plc_cases (l : List Ho) (k n : Int) : (plc l k n = -1 ∧ ∀ j, j < l.length → nm k n (l.getD j z5) = false) ∨ (∃ m : Nat, m < l.length ∧ plc l k n = m ∧ nm k n (l.getD m z5) = true ∧ ∀ j, j < m → nm k n (l.getD j z5) = false) := by
  by_cases h : l.findIdx (nm k n) < l.length
  · refine .inr ⟨l.findIdx (nm k n), h, by rw [plc, if_pos h], ?_, fun j hj => ?_⟩
    · rw [getD_get h]; exact List.findIdx_getElem (w := h)
    · rw [getD_get (by omega)]
      simpa using List.not_of_lt_findIdx hj
  · refine .inl ⟨by rw [plc, if_neg h], fun j hj => ?_⟩
    have e : l.findIdx (nm k n) = l.length := by have := List.findIdx_le_length (p := nm k n) (xs := l); omega
    rw [List.findIdx_eq_length] at e
    exact e _ (getD_mem hj)
theorem fnd_hit {l : List Ho} {k n : Int} {m : Nat} (hm : m < l.length) (h1 : ∀ j, j < m → nm k n (l.getD j z5) = false) (h2 : nm k n (l.getD m z5) = true) : fnd l k n = some (l.getD m z5) := by
  rw [fnd, List.find?_eq_some_iff_getElem]
  refine ⟨h2, m, hm, (getD_get hm).symm, fun j hj => ?_⟩
  rw [← getD_get (by omega), h1 j hj]
  rfl
theorem fnd_miss {l : List Ho} {k n : Int} (h : ∀ j, j < l.length → nm k n (l.getD j z5) = false) : fnd l k n = none := by
  rw [fnd, List.find?_eq_none]
  intro x hx
  obtain ⟨i, hi, rfl⟩ := mem_getD hx
  rw [h i hi]; decide
theorem take_succ_getD {l : List Ho} {m : Nat} (hm : m < l.length) : l.take (m + 1) = l.take m ++ [l.getD m z5] := by
  rw [List.take_succ_eq_append_getElem hm, getD_get hm]
/-- In holds that rise there is one of each name. -/
theorem fnd_mem {l : List Ho} {x : Ho} (hl : l.Pairwise AH) (hx : x ∈ l) : fnd l x.r x.n = some x := by
  cases h : fnd l x.r x.n with
  | none =>
    rw [fnd, List.find?_eq_none] at h
    exact absurd (nm_iff.2 ⟨rfl, rfl⟩) (h x hx)
  | some y =>
    have h1 := List.find?_some h
    rw [nm_iff] at h1
    rw [(Apart.of_rises hl).one (List.mem_of_find?_eq_some h) hx ⟨h1.1, h1.2⟩]
theorem fnd_name {l : List Ho} {k n : Int} {y : Ho} (h : fnd l k n = some y) : y ∈ l ∧ y.r = k ∧ y.n = n :=
  ⟨List.mem_of_find?_eq_some h, nm_iff.1 (List.find?_some h)⟩
theorem fnd_none {l : List Ho} {k n : Int} (h : fnd l k n = none) {x : Ho} (hx : x ∈ l) : ¬ (x.r = k ∧ x.n = n) := by
  rw [fnd, List.find?_eq_none] at h
  exact fun e => h x hx (nm_iff.2 e)

/-! ### What a replica holds. -/
/-! ### Reserving. -/
/-! ### Ending. -/
/-! ### Letting go. -/

end Go.Proofs.YtgblnlpfgdbnnaaGreat

namespace Go.Proofs.YtgblnlpfgdbnnaaGreat
set_option maxRecDepth 100000
open Go.ChangeShapes Go.WideShapes Go.ChangeAt Go.RowKit

theorem rights_eq (A : Option Addr) (n c : Nat) (hs : List Ho) (r : Bool) (hr : rightsL hs = r) (w : World) (hd : Row w A n hs) :
    Calls Tryz.prog 93 #[.slice A n c] w fun e w' => e = .returned (.bool r) ∧ Below w.heap.size w w' := by
  subst hr; exact rights_any A n c hs w hd

set_option maxHeartbeats 1000000 in
theorem clone_any (A : Option Addr) (n c : Nat) (hs : List Ho) (w : World) (hd : Row w A n hs) :
    Calls Tryz.prog 94 #[.slice A n c] w fun e w' => ∃ v, e = .returned v ∧ Own w' w.heap.size v hs ∧ Below w.heap.size w w' := by
  have q : ∀ (w : World) (a : Option Addr) (n c n' c' : Nat), (binOp .eql 41 (.slice a n c) (.slice none n' c')).run Tryz.prog w = .ok (.bool a.isNone) w := fun w a n c n' c' => Lib.run_eql_slice_nil w _ _ a n c n' c' Tryz.underlying41
  have HD := Lib.hid hd; have HL := Lib.hid hd.1; have HNB := Lib.hid hd.2.1
  have HK := Lib.hid (KeepR.start w)
  cases A with
  | none =>
    have h0 : n = 0 := by
      rcases hd.2.2 with h | ⟨b, off, h, _⟩
      · exact h
      · cases h
    have HE := Lib.hid (show hs = [] from List.eq_nil_of_length_eq_zero (by rw [hd.1, h0]))
    clear hd h0
    go_enter Tryz.func94, Tryz.ntmps94
    go_wp2
    go_ret
    exact ⟨_, rfl, by rw [HE.out]; exact Own.nil _ _, HK.out.bel⟩
  | some ad =>
    clear hd
    go_enter Tryz.func94, Tryz.ntmps94
    go_wp2_with (first
      | (with_reducible refine build_none HK.out rfl rfl ?_; intro v1 u hk; clear HK; have HK := Lib.hid hk; clear hk)
      | (refine app_hos HK.out rfl _ _ rfl rfl _ _ _ hs rfl (HD.out.below HK.out.keep.bel (Nat.le_refl _)) (by have := HNB.out; simp; omega) ?_; intro v2 u hk; clear HK; have HK := Lib.hid hk; clear hk))
    go_ret
    exact ⟨_, rfl, HK.out.own, HK.out.keep.bel⟩

theorem nan_any (n : Int) (w : World) :
    Calls Tryz.prog 161 #[.int .i64 n] w fun e w' => e = .returned (.bool false) ∧ w = w' := by
  go_enter Tryz.func161, Tryz.ntmps161
  go_wp2
  go_ret
  simp
theorem cmpi_any (x y : Int) (w : World) :
    Calls Tryz.prog 137 #[.int .i64 x, .int .i64 y] w fun e w' => e = .returned (.int .i64 (cmpI x y)) ∧ w = w' := by
  rcases cmpI_cases x y with ⟨h, e⟩ | ⟨h, e⟩ | ⟨h, e⟩
  · rw [e]; clear e
    go_enter Tryz.func137, Tryz.ntmps137
    go_wp2_with (first
      | (go_at_call 161; (with_reducible refine (nan_any _ _).mono ?_); rintro e u ⟨rfl, rfl⟩))
    go_ret
    exact ⟨rfl, rfl⟩
  · rw [e]; clear e
    have h' : ¬ x < y := by omega
    go_enter Tryz.func137, Tryz.ntmps137
    go_wp2_with (first
      | (go_at_call 161; (with_reducible refine (nan_any _ _).mono ?_); rintro e u ⟨rfl, rfl⟩))
    go_ret
    exact ⟨rfl, rfl⟩
  · rw [e]; clear e
    have h1 : ¬ x < y := by omega
    have h2 : ¬ y < x := by omega
    clear h
    go_enter Tryz.func137, Tryz.ntmps137
    go_wp2_with (first
      | (go_at_call 161; (with_reducible refine (nan_any _ _).mono ?_); rintro e u ⟨rfl, rfl⟩))
    go_ret
    exact ⟨rfl, rfl⟩

theorem KeepH.re {w u u' : World} {v v' : Value} {hs hs' : List Ho} {l : List (Nat × TypeId × List Int)} (h : KeepH w l v hs u) (ho : Own u' w.heap.size v' hs') (hb : Below w.heap.size u u') : KeepH w [] v' hs' u' :=
  ⟨⟨h.keep.bel.trans hb, by simp, by simp⟩, ho, by simp⟩

theorem own_load {u : World} {base g n cap : Nat} {xs : List Ho} {m : Nat} {h : Ho} (ho : Own u base (.slice (some ⟨g, 0, none⟩) n cap) xs) (hm : m < xs.length) (he : xs.getD m z5 = h) : u.rangeAt g (m * 5) (vals h.l) := by
  subst he; exact ho.range hm

section
variable {w u : World} {l : List (Nat × TypeId × List Value)} {rows : List (Option Addr × Nat × List Ho)}
theorem results_f1 {fn : Func} {p : Tmp} {ty : TypeId} {d : TypeDesc} {cs : List Value} (h : fn.results = #[.cell p ty]) (hu : Tryz.prog.underlying ty = some d) (hd : d.isRow = true) (hs : (Tryz.prog.info? ty).map (·.size) = some cs.length) (tmps : Array Value) (hk : KeepF w l rows u) (i : Nat) {b : Nat}
    (hi : l[i]? = some (b, ty, cs)) (hp : tmps.getD p undef = .pointer (some ⟨b, 0, none⟩)) : (results fn tmps).run Tryz.prog u = .ok (.agg cs.toArray) u :=
  results_cell_row h tmps u b _ _ (0, 0) d hp (hk.get i hi) hu (by cases d <;> simp_all) (by rw [List.size_toArray]; exact hs)
end
section
variable {ops : Array Oper} {rest : List Oper} {o : Oper} {a : Act} {w u : World} {l : List (Nat × TypeId × List Value)} {rows : List (Option Addr × Nat × List Ho)} {Q : Exit → Act → World → Prop} {K : Act → World → Prop} {S : World → Prop}
/-- A part of a kept block yields the same wherever it is kept. -/
theorem yield_fr (hk : ∀ u, S u → KeepF w l rows u) (i : Nat) {ty : TypeId} {d : TypeDesc} (hu : Tryz.prog.underlying ty = some d) (hd : d.isRow = true) {xs : List Value} (hs : (Tryz.prog.info? ty).map (·.size) = some xs.length)
    (x : Operand) (ho : o.op = .load ty x) {b off : Nat} {t : TypeId} {cs : List Value} (hi : l[i]? = some (b, t, cs)) (hx : a.eval x = .pointer (some ⟨b, off, none⟩)) (hw : Region.wanted o (yielded ops a.tmps) = true) (hr : ∀ j v, xs[j]? = some v → cs[off + j]? = some v) :
    YieldsIf Tryz.prog ops S o (.agg xs.toArray) a :=
  yieldsIf_load_mid hw ty x ho b off hx xs d (fun u h => ((hk u h).get i hi).range hr) hu hd hs
end

theorem Fd.leC {p : Pf} {A : Option Addr} {c : Nat} {D : List Int} (hp : p.full) (hD : D.length = 579) : 3 + (vals D).length ≤ (p.fd A c).cells.length := by rw [Pf.len hp, vals_length, hD]; decide
theorem Fd.leL {p : Pf} {A : Option Addr} {c : Nat} {M : Lk} (hp : p.full) : 582 + (vals M.l).length ≤ (p.fd A c).cells.length := by rw [Pf.len hp, vals_length, Lk.len]; decide
/-! ### headOf. -/
def headC (p : Pf) : List Value := [.string p.nm, .int .i64 p.k, .int .i64 p.e]
theorem hd_build (s : ByteArray) (x y : Int) (W : World) : (Instr.build 84 #[(0, .string s), (1, .int .i64 x), (2, .int .i64 y)]).run Tryz.prog W = .ok (.agg #[.string s, .int .i64 x, .int .i64 y]) W := by kernel_rfl
theorem hd_zero : (Tryz.prog.info? 84).bind (·.zero) = some (.agg [.string ByteArray.empty, .int .i64 0, .int .i64 0].toArray) := by kernel_rfl
theorem hd_info (p : Pf) : (Tryz.prog.info? 84).map (·.size) = some (headC p).length := by rw [show (headC p).length = 3 from rfl]; kernel_rfl
theorem build_hd {ops : Array Oper} {rest : List Oper} {o : Oper} {a : Act} {u : World} {Q : Exit → Act → World → Prop} (hgd : o.guard = none) (x0 x1 x2 : Operand) (ho : o.op = .build 84 #[(0, x0), (1, x1), (2, x2)]) {p : Pf}
    (h0 : a.eval x0 = .string p.nm) (h1 : a.eval x1 = .int .i64 p.k) (h2 : a.eval x2 = .int .i64 p.e)
    (h : wpList Tryz.prog ops Q rest (a.put o.dst (.agg (headC p).toArray)) u) : wpList Tryz.prog ops Q (o :: rest) a u :=
  wpList_plain hgd fun K hK => by
    unfold Oper.wp execOp
    simp only [ho, List.map_toArray, List.map_cons, List.map_nil, h0, h1, h2, Sem.run_bind, Sem.run_pure, Result.andThen_ok, hd_build]
    exact hK _ _ h
theorem headC_one (p : Pf) : (headC p).toArray.all (·.oneCell') = true := by simp [headC, Value.oneCell']
theorem headC_put (p : Pf) : spl [.string ByteArray.empty, .int .i64 0, .int .i64 0] 0 (headC p) = headC p := rfl
theorem headC_le (p : Pf) : 0 + (headC p).length ≤ [Value.string ByteArray.empty, .int .i64 0, .int .i64 0].length := Nat.le_refl 3
theorem head_any (p : Pf) (hp : p.full) (A : Option Addr) (c : Nat) (w : World) :
    Calls Tryz.prog 55 #[.agg (p.fd A c).cells.toArray] w fun e w' => e = .returned (.agg (headC p).toArray) ∧ Below w.heap.size w w' := by
  have HK := Lib.hid (KeepF.start (w := w) (rows := []) (by simp))
  have HF := Lib.hid hp; clear hp
  go_enter Tryz.func55, Tryz.ntmps55
  go_wp2_with (first
    | (with_reducible refine box_f HK.out rfl _ rfl rfl ?_; intro b u hk; clear HK; have HK := Lib.hid hk; clear hk)
    | (with_reducible refine alloc_f HK.out hd_zero rfl rfl ?_; intro br u hk; clear HK; have HK := Lib.hid hk; clear hk)
    | (with_reducible refine load_f1 HK.out 1 cbS _ rfl rfl rfl rfl Pf.cn ?_)
    | (with_reducible refine load_f1 HK.out 1 cbI _ rfl rfl rfl rfl Pf.ck ?_)
    | (with_reducible refine load_f1 HK.out 1 cbI _ rfl rfl rfl rfl Pf.ce ?_)
    | (with_reducible refine build_hd (p := p) rfl _ _ _ rfl rfl rfl rfl ?_)
    | (with_reducible refine store_fr HK.out 0 (hd_info p) (headC_one p) rfl rfl _ _ rfl rfl rfl rfl (headC_le p) (headC_put p) ?_; intro u hk; simp only [List.set_cons_zero] at hk; clear HK; have HK := Lib.hid hk; clear hk))
  exact bodyPost_ret (results_f1 rfl Tryz.underlying84 rfl (hd_info p) _ HK.out 0 rfl rfl) rfl ⟨rfl, HK.out.bel⟩

/-! ### apart. -/

/-! ### Locks. -/
/-! ### Fields. -/
theorem Pf.fullC {p : Pf} {D : List Int} (h : D.length = 579) : (p.setC D).full := h
theorem Pf.fullL {p : Pf} (h : p.full) (M : Lk) : (p.setL M).full := h
theorem Pf.fullH {p : Pf} (h : p.full) (R : List Ho) : (p.setH R).full := h

theorem hd_fields : (Tryz.prog.fieldsOf 84).toList.map (fun f => (f.type, f.offset, f.name)) = [(9, 0, "name"), (3, 1, "kind"), (3, 2, "epoch")] := by kernel_rfl
theorem hd_under : Tryz.prog.underlying 84 = some (.struct (Tryz.prog.fieldsOf 84)) := by kernel_rfl
theorem eql_hd (p : Pf) (w : World) : (Op.equalIn 10000 84 (.agg (headC p).toArray) (.agg (headC p).toArray)).run Tryz.prog w = .ok true w := by
  have hst := run_equalIn_struct (P := Tryz.prog) w 9999 84 (headC p).toArray (headC p).toArray hd_under (by kernel_rfl)
  have hi : ∀ x : Int, (Op.equalIn 9999 3 (.int .i64 x) (.int .i64 x)).run Tryz.prog w = .ok true w := fun x => by rw [run_equalIn_int w 9998 3 .i64 .i64 x x Tryz.underlying3]; simp
  have hs : ∀ s : ByteArray, (Op.equalIn 9999 9 (.string s) (.string s)).run Tryz.prog w = .ok true w := fun s => by rw [run_equalIn_string w 9998 9 s s Tryz.underlying9]; simp
  have q0 : (part 9 (headC p).toArray 0).run Tryz.prog w = .ok (.string p.nm) w := by simp [part, isAgg, run_underlying Tryz.underlying9, headC]
  have q1 : (part 3 (headC p).toArray 1).run Tryz.prog w = .ok (.int .i64 p.k) w := by simp [part, isAgg, run_underlying Tryz.underlying3, headC]
  have q2 : (part 3 (headC p).toArray 2).run Tryz.prog w = .ok (.int .i64 p.e) w := by simp [part, isAgg, run_underlying Tryz.underlying3, headC]
  obtain ⟨f1, f2, f3, hf, e1, e2, e3⟩ := fields3 hd_fields
  injection e1 with e1a e1; injection e1 with e1b e1c
  injection e2 with e2a e2; injection e2 with e2b e2c
  injection e3 with e3a e3; injection e3 with e3b e3c
  rw [hst, hf, show true = (true && (true && (true && true))) from rfl]
  clear hst hf
  refine eqField (by rw [e1c]; decide) (by rw [e1a, e1b]; exact q0) (by rw [e1a, e1b]; exact q0) (by rw [e1a]; exact hs _) ?_
  refine eqField (by rw [e2c]; decide) (by rw [e2a, e2b]; exact q1) (by rw [e2a, e2b]; exact q1) (by rw [e2a]; exact hi _) ?_
  refine eqField (by rw [e3c]; decide) (by rw [e3a, e3b]; exact q2) (by rw [e3a, e3b]; exact q2) (by rw [e3a]; exact hi _) ?_
  simp [Op.eqFields]
theorem hd_guard : Tryz.prog.eqGuardType Tryz.prog.depth 84 = false := by kernel_rfl

end Go.Proofs.YtgblnlpfgdbnnaaGreat

namespace Go.Proofs
open Go.Shelf Go.RowKit Go.Lib Go.Sort

/-- Which function, and which type, of this program each of the library's is. -/
def YtgblnlpfgdbnnaaGreat.sortRen : Ren where
  f := fun x => match x with
    | 6 => 96
    | 14 => 135
    | 15 => 91
    | 20 => 153
    | 21 => 154
    | 22 => 155
    | 23 => 156
    | 24 => 157
    | 25 => 158
    | 26 => 159
    | 27 => 160
    | 28 => 130
    | 29 => 131
    | 46 => 169
    | 47 => 147
    | 48 => 148
    | 49 => 170
    | 50 => 171
    | 57 => 172
    | n => n
  t := fun x => match x with
    | 0 => 0
    | 3 => 3
    | 4 => 4
    | 5 => 5
    | 9 => 9
    | 22 => 41
    | 24 => 81
    | 25 => 127
    | 39 => 119
    | 45 => 140
    | 46 => 141
    | 50 => 30
    | 53 => 147
    | 55 => 149
    | 66 => 164
    | 70 => 168
    | 76 => 177
    | 77 => 178
    | n => n
  g := fun x => x
theorem YtgblnlpfgdbnnaaGreat.sortHo : SlLaysF0.n6 Tryz.prog YtgblnlpfgdbnnaaGreat.sortRen where
  mixed := by kernel_rfl
  f6 := YtgblnlpfgdbnnaaGreat.bears Tryz.func96 (by kernel_rfl) (by kernel_rfl)
  f14 := YtgblnlpfgdbnnaaGreat.bears Tryz.func135 (by kernel_rfl) (by kernel_rfl)
  f15 := by kernel_rfl
  f20 := YtgblnlpfgdbnnaaGreat.bears Tryz.func153 (by kernel_rfl) (by kernel_rfl)
  f21 := YtgblnlpfgdbnnaaGreat.bears Tryz.func154 (by kernel_rfl) (by kernel_rfl)
  f22 := YtgblnlpfgdbnnaaGreat.bears Tryz.func155 (by kernel_rfl) (by kernel_rfl)
  f23 := YtgblnlpfgdbnnaaGreat.bears Tryz.func156 (by kernel_rfl) (by kernel_rfl)
  f24 := YtgblnlpfgdbnnaaGreat.bears Tryz.func157 (by kernel_rfl) (by kernel_rfl)
  f25 := YtgblnlpfgdbnnaaGreat.bears Tryz.func158 (by kernel_rfl) (by kernel_rfl)
  f26 := YtgblnlpfgdbnnaaGreat.bears Tryz.func159 (by kernel_rfl) (by kernel_rfl)
  f27 := YtgblnlpfgdbnnaaGreat.bears Tryz.func160 (by kernel_rfl) (by kernel_rfl)
  f28 := by kernel_rfl
  f29 := by kernel_rfl
  f46 := YtgblnlpfgdbnnaaGreat.bears Tryz.func169 (by kernel_rfl) (by kernel_rfl)
  f47 := by kernel_rfl
  f48 := by kernel_rfl
  f49 := YtgblnlpfgdbnnaaGreat.bears Tryz.func170 (by kernel_rfl) (by kernel_rfl)
  f50 := YtgblnlpfgdbnnaaGreat.bears Tryz.func171 (by kernel_rfl) (by kernel_rfl)
  f57 := YtgblnlpfgdbnnaaGreat.bears Tryz.func172 (by kernel_rfl) (by kernel_rfl)
  t0 := by kernel_rfl
  a0 := fun _ => by kernel_rfl
  z0 := fun _ => by kernel_rfl
  v0 := fun _ => by kernel_rfl
  t3 := by kernel_rfl
  a3 := fun _ => by kernel_rfl
  z3 := fun _ => by kernel_rfl
  v3 := fun _ => by kernel_rfl
  t4 := by kernel_rfl
  a4 := fun _ => by kernel_rfl
  z4 := fun _ => by kernel_rfl
  v4 := fun _ => by kernel_rfl
  t5 := by kernel_rfl
  a5 := fun _ => by kernel_rfl
  z5 := fun _ => by kernel_rfl
  v5 := fun _ => by kernel_rfl
  t9 := by kernel_rfl
  a9 := fun _ => by kernel_rfl
  z9 := fun _ => by kernel_rfl
  v9 := fun _ => by kernel_rfl
  t22 := by kernel_rfl
  a22 := fun _ => by kernel_rfl
  z22 := fun _ => by kernel_rfl
  v22 := fun _ => by kernel_rfl
  t25 := by kernel_rfl
  a25 := fun _ => by kernel_rfl
  z25 := fun _ => by kernel_rfl
  v25 := fun _ => by kernel_rfl
  t39 := by kernel_rfl
  a39 := fun _ => by kernel_rfl
  z39 := fun _ => by kernel_rfl
  v39 := fun _ => by kernel_rfl
  t45 := by kernel_rfl
  a45 := fun _ => by kernel_rfl
  z45 := fun _ => by kernel_rfl
  v45 := fun _ => by kernel_rfl
  t46 := by kernel_rfl
  a46 := fun _ => by kernel_rfl
  z46 := fun _ => by kernel_rfl
  v46 := fun _ => by kernel_rfl
  t50 := by kernel_rfl
  a50 := fun _ => by kernel_rfl
  z50 := fun _ => by kernel_rfl
  v50 := fun _ => by kernel_rfl
  t53 := by kernel_rfl
  a53 := fun _ => by kernel_rfl
  z53 := fun _ => by kernel_rfl
  v53 := fun _ => by kernel_rfl
  t55 := by kernel_rfl
  a55 := fun _ => by kernel_rfl
  z55 := fun _ => by kernel_rfl
  v55 := fun _ => by kernel_rfl
  t66 := by kernel_rfl
  a66 := fun _ => by kernel_rfl
  z66 := fun _ => by kernel_rfl
  v66 := fun _ => by kernel_rfl
  t70 := by kernel_rfl
  a70 := fun _ => by kernel_rfl
  z70 := fun _ => by kernel_rfl
  v70 := fun _ => by kernel_rfl
  t76 := by kernel_rfl
  a76 := fun _ => by kernel_rfl
  z76 := fun _ => by kernel_rfl
  v76 := fun _ => by kernel_rfl
  t77 := by kernel_rfl
  a77 := fun _ => by kernel_rfl
  z77 := fun _ => by kernel_rfl
  v77 := fun _ => by kernel_rfl

theorem YtgblnlpfgdbnnaaGreat.cmpLays (blk off size : Nat) (w : World) : CmpLays Tryz.prog 97 #[] (fun h : YtgblnlpfgdbnnaaGreat.Ho => YtgblnlpfgdbnnaaGreat.vals h.l) 5 YtgblnlpfgdbnnaaGreat.nameC blk off size w :=
  fun _ _ _ _ x y => (YtgblnlpfgdbnnaaGreat.name_any x y _).mono fun _ _ ⟨he, hb, hd⟩ => ⟨he, YtgblnlpfgdbnnaaGreat.grow_of_below hb hd⟩
theorem YtgblnlpfgdbnnaaGreat.swo : SWO (ltOf YtgblnlpfgdbnnaaGreat.nameC) where
  irrefl x := by show decide (YtgblnlpfgdbnnaaGreat.nameC x x < 0) = false; rw [YtgblnlpfgdbnnaaGreat.nameC_neg, YtgblnlpfgdbnnaaGreat.ahB_not]; exact YtgblnlpfgdbnnaaGreat.AH.irrefl x
  trans x y z h1 h2 := by
    simp only [ltOf, YtgblnlpfgdbnnaaGreat.nameC_neg, YtgblnlpfgdbnnaaGreat.ahB_iff] at *
    exact h1.trans h2
  ntrans x y z h1 h2 := by
    simp only [ltOf, YtgblnlpfgdbnnaaGreat.nameC_neg, YtgblnlpfgdbnnaaGreat.ahB_not] at *
    unfold YtgblnlpfgdbnnaaGreat.AH at *; omega
end Go.Proofs

namespace Go.Proofs.YtgblnlpfgdbnnaaGreat
set_option maxRecDepth 100000

open Go.ChangeShapes Go.WideShapes Go.ChangeAt Go.RowKit Go.Shelf Go.Lib Go.Sort

theorem Own.sorted {w : World} {base g cap n q : Nat} {hs ys : List Ho} {os : Array Obj} (h : Own w base (.slice (some ⟨g, 0, none⟩) n cap) hs) (hy : ys.length = hs.length) (hb : base ≤ w.heap.size) :
    Own (sortWorldK (fun h : Ho => vals h.l) 5 w g 0 q ys.toArray os) base (.slice (some ⟨g, 0, none⟩) n cap) ys ∧ RowKit.Below base w (sortWorldK (fun h : Ho => vals h.l) 5 w g 0 q ys.toArray os) := by
  rcases h.2 with ⟨e0, _⟩ | ⟨g', cap', cur, e0, hbg, hg, hn, hm, hs', ht⟩
  · cases e0
  · injection e0 with e1 e2 e3
    injection e1 with e1
    injection e1 with e1
    subst e1; subst e2; subst e3
    have hgl : g < w.heap.size := (Array.getElem?_eq_some_iff.1 hg).1
    have hgl' : g < (putRowK (fun h : Ho => vals h.l) 5 (Sort.ahead w q) g 0 ys.toArray).heap.size := by simpa [putRowK, putRow, mapBlock, Sort.ahead] using hgl
    refine ⟨⟨by rw [vals_length, flat_length], .inr ⟨g, cap, putCells id 0 (flatK (fun h : Ho => vals h.l) 5 ys.toArray) cur, by rw [hy], hbg, ?_, by omega, hm, by simpa [putCells] using hs', ?_⟩⟩, ?_⟩
    · unfold sortWorldK
      rw [heap_grow_old _ _ hgl']
      simp [putRowK, putRow, mapBlock, Sort.ahead, Array.getElem?_modify, hg, onCells]
    · apply List.ext_getElem?
      intro j
      rw [List.getElem?_take, Array.getElem?_toList]
      by_cases hj : j < ys.length * 5
      · have hcap : hs.length * 5 ≤ cap * 5 := Nat.mul_le_mul_right 5 hn
        have hjc : j < cur.size := by omega
        simp only [if_pos hj, putCells, Array.getElem?_mapIdx, Array.getElem?_eq_getElem hjc, Option.map_some]
        rw [if_pos (by simp; omega), vals_get (by rw [flat_length]; omega), Nat.sub_zero, flatK_vals ys j hj]
        rfl
      · rw [if_neg hj, List.getElem?_eq_none (by rw [vals_length, flat_length]; omega)]
    · refine ⟨rfl, rfl, rfl, by simp [sortWorldK, putRowK, putRow, mapBlock, Sort.ahead], fun k hk => ?_⟩
      unfold sortWorldK
      rw [heap_grow_old _ _ (by simp [putRowK, putRow, mapBlock, Sort.ahead]; omega)]
      simp [putRowK, putRow, mapBlock, Sort.ahead, Array.getElem?_modify, show g ≠ k by omega]

theorem sort_any (w : World) (base : Nat) (v : Value) (hs : List Ho) (ho : Own w base v hs) (hb : base ≤ w.heap.size) (hn : hs.length ≤ 2000) (hap : Apart hs) :
    Calls Tryz.prog 96 #[v, .func (.func 97) #[] #[]] w fun e w' => e = .returned (.tuple #[]) ∧ Own w' base v (isort hs) ∧ RowKit.Below base w w' := by
  rcases Nat.eq_zero_or_pos hs.length with h0 | h0
  · have hnil : hs = [] := List.eq_nil_of_length_eq_zero h0
    subst hnil
    obtain ⟨A, c, rfl⟩ := ho.slice
    have hcon := AnyF.slices_SortFunc_none sortHo A c (.func (.func 97) #[] #[]) w
    change Calls Tryz.prog 96 _ _ _ at hcon
    exact hcon.mono fun e w' ⟨he, hw⟩ => ⟨he, by rw [hw]; exact ho, by rw [hw]; exact Below.refl _ _⟩
  · obtain ⟨g, cap, rfl, hg1, hg2⟩ := ho.at h0
    have eg : ∀ args w, (callFunc 97 args).run Tryz.prog w = .ok (.enter 97 args) w := enters_of Tryz.func97 (by kernel_rfl) rfl
    have hcon := AnyQ.slices_SortFunc sortHo 5 Tryz.isAgg81 Tryz.sizeOf81 (fun h : Ho => vals h.l) (fun _ => rfl) (fun x => vals_one x.l) nameC swo 97 #[] g 0 cap hs.toArray w eg (cmpLays g 0 hs.toArray.size w) ho.holds hg2 (by simp; omega)
    change Calls Tryz.prog 96 _ _ _ at hcon
    rw [show hs.toArray.size = hs.length by simp] at hcon
    refine hcon.mono fun e w' ⟨he, d', n, os, hp, hs', hw⟩ => ⟨he, ?_⟩
    obtain ⟨ys, rfl⟩ : ∃ ys : List Ho, d' = ys.toArray := ⟨d'.toList, by simp⟩
    have hy : ys.length = hs.length := by simpa using hp.1
    have hperm : ys.Perm hs := by
      have := hp.2.2
      simpa [← hy, List.take_of_length_le] using this
    have hsort : ys = isort hs := by
      refine sorted_isort hap hperm ?_
      rw [List.pairwise_iff_getElem]
      intro i j hi hj hij
      have := hs' i j (Nat.zero_le _) hij (by omega)
      rw [getElem!_pos ys.toArray j (by simpa using hj), getElem!_pos ys.toArray i (by simpa using hi)] at this
      simp only [ltOf, nameC_neg, List.getElem_toArray] at this
      exact this
    have hfin := ho.sorted (q := n) (os := os) hy hb
    rw [hw, ← hsort]
    exact hfin

end Go.Proofs.YtgblnlpfgdbnnaaGreat

namespace Go.Proofs.YtgblnlpfgdbnnaaGreat

/-- What one knows, with what others know of it. -/
def upd (c : List Ho) (x : Ho) : Ho := match fnd c x.r x.n with
  | some y => setS x (max x.s y.s)
  | none => x
/-- Each of a, with what c knows of it, and then all of c that a has not. -/
def jraw (a c : List Ho) : List Ho := a.map (upd c) ++ c.filter fun y => (fnd a y.r y.n).isNone
/-- a has one of its name, of another amount or time. -/
def clB (a : List Ho) (y : Ho) : Bool := match fnd a y.r y.n with
  | some x => (x.a != y.a) || (x.d != y.d)
  | none => false
def joinE (a b : List Ho) : Int := if rightsL a && rightsL b then (if b.any (clB a) then 1 else if 16 < (jraw a b).length then 7 else 0) else 1
def joinLH (a b : List Ho) : List Ho := if joinE a b = 0 then isort (jraw a b) else []

theorem jraw_nil (a : List Ho) : jraw a [] = a := by
  unfold jraw
  rw [show upd [] = id from rfl]; simp
theorem upd_name (c : List Ho) (x : Ho) : (upd c x).r = x.r ∧ (upd c x).n = x.n ∧ (upd c x).a = x.a ∧ (upd c x).d = x.d := by
  unfold upd setS
  split <;> simp
theorem upd_none {c : List Ho} {x : Ho} (h : fnd c x.r x.n = none) : upd c x = x := by unfold upd; rw [h]
theorem upd_some {c : List Ho} {x y : Ho} (h : fnd c x.r x.n = some y) : upd c x = setS x (max x.s y.s) := by unfold upd; rw [h]
theorem fnd_append (c d : List Ho) (k n : Int) : fnd (c ++ d) k n = (fnd c k n).or (fnd d k n) := by
  unfold fnd
  rw [List.find?_append]
theorem fnd_one (h : Ho) (k n : Int) : fnd [h] k n = if nm k n h then some h else none := by
  unfold fnd
  cases hn : nm k n h <;> simp [hn]
theorem nm_SN {x y : Ho} : nm x.r x.n y = true ↔ SN y x := by rw [nm_iff]; rfl
theorem fnd_none_iff {c : List Ho} {x : Ho} : fnd c x.r x.n = none ↔ ∀ y ∈ c, ¬ SN y x := by
  constructor
  · intro h y hy hs
    exact fnd_none h hy hs
  · intro h
    rw [fnd, List.find?_eq_none]
    intro y hy e
    exact h y hy (nm_SN.1 e)
/-- One that a has not. -/
theorem jraw_new {a c : List Ho} {h : Ho} (hn : fnd a h.r h.n = none) : jraw a (c ++ [h]) = jraw a c ++ [h] := by
  unfold jraw
  have hu : a.map (upd (c ++ [h])) = a.map (upd c) := by
    apply List.map_congr_left
    intro x hx
    have hx' : nm x.r x.n h = false := by
      rw [← Bool.not_eq_true, nm_SN]
      exact fun hs => fnd_none_iff.1 hn x hx hs.symm
    unfold upd
    rw [fnd_append, fnd_one, hx']
    simp
  rw [hu, List.filter_append, List.append_assoc]
  simp [hn]
/-- One that a has. -/
theorem jraw_hit {a c : List Ho} {h : Ho} {i : Nat} (ha : a.Pairwise AH) (hi : i < a.length) (hx : SN (a.getD i z5) h) (hc : ∀ y ∈ c, ¬ SN y h) :
    jraw a (c ++ [h]) = (jraw a c).set i (setS (a.getD i z5) (max (a.getD i z5).s h.s)) ∧ (jraw a c).getD i z5 = a.getD i z5 := by
  have hfa : (fnd a h.r h.n).isNone = false := by
    cases hf : fnd a h.r h.n with
    | none => exact absurd hx (fnd_none_iff.1 hf _ (getD_mem hi))
    | some y => rfl
  have hfc : fnd c (a.getD i z5).r (a.getD i z5).n = none := by
    rw [hx.1, hx.2]
    exact fnd_none_iff.2 hc
  have hl : i < (a.map (upd c)).length := by simpa using hi
  refine ⟨?_, ?_⟩
  · unfold jraw
    rw [List.filter_append]
    have hf1 : [h].filter (fun y => (fnd a y.r y.n).isNone) = [] := by simp [hfa]
    rw [hf1, List.append_nil, List.set_append_left _ _ hl]
    congr 1
    apply List.ext_getElem
    · simp
    · intro j h1 h2
      simp only [List.length_map] at h1
      rw [List.getElem_map, List.getElem_set]
      by_cases hij : i = j
      · subst hij
        rw [if_pos rfl, ← getD_get h1]
        apply upd_some
        rw [fnd_append, hfc, fnd_one, if_pos (nm_SN.2 hx.symm)]
        rfl
      · rw [if_neg hij, List.getElem_map]
        have hns : ¬ SN a[j] h := by
          intro hs
          have h3 := (Apart.of_rises ha).one (List.getElem_mem h1) (getD_mem hi) (hs.trans hx.symm)
          rw [getD_get hi] at h3
          rcases Nat.lt_trichotomy i j with h4 | h4 | h4
          · have := List.pairwise_iff_getElem.1 ha i j hi h1 h4
            rw [h3] at this
            exact AH.irrefl _ this
          · exact hij h4
          · have := List.pairwise_iff_getElem.1 ha j i h1 hi h4
            rw [h3] at this
            exact AH.irrefl _ this
        have hx' : nm a[j].r a[j].n h = false := by
          rw [← Bool.not_eq_true, nm_SN]
          exact fun hs => hns hs.symm
        unfold upd
        rw [fnd_append, fnd_one, hx']
        simp
  · unfold jraw
    rw [getD_get (by simp; omega), List.getElem_append_left (by simpa using hi), List.getElem_map, ← getD_get hi]
    exact upd_none hfc
theorem jraw_length (a c : List Ho) : a.length ≤ (jraw a c).length ∧ (jraw a c).length ≤ a.length + c.length := by
  unfold jraw
  have := List.length_filter_le (fun y => (fnd a y.r y.n).isNone) c
  rw [List.length_append, List.length_map]
  omega
/-- Who is in the join. -/
theorem mem_jraw {a c : List Ho} {z : Ho} : z ∈ jraw a c ↔ (∃ x ∈ a, upd c x = z) ∨ (z ∈ c ∧ ∀ x ∈ a, ¬ SN x z) := by
  unfold jraw
  rw [List.mem_append, List.mem_map, List.mem_filter, Option.isNone_iff_eq_none, fnd_none_iff]
theorem jraw_apart {a c : List Ho} (ha : Apart a) (hc : Apart c) : Apart (jraw a c) := by
  unfold jraw
  unfold Apart at *
  rw [List.pairwise_append]
  refine ⟨?_, hc.sublist List.filter_sublist, ?_⟩
  · rw [List.pairwise_map]
    refine ha.imp fun {x y} h hs => h ?_
    obtain ⟨h1, h2⟩ := hs
    rw [(upd_name c x).1, (upd_name c y).1] at h1
    rw [(upd_name c x).2.1, (upd_name c y).2.1] at h2
    exact ⟨h1, h2⟩
  · intro x hx y hy hs
    obtain ⟨x0, hx0, rfl⟩ := List.mem_map.1 hx
    rw [List.mem_filter, Option.isNone_iff_eq_none, fnd_none_iff] at hy
    obtain ⟨h1, h2⟩ := hs
    rw [(upd_name c x0).1] at h1
    rw [(upd_name c x0).2.1] at h2
    exact hy.2 x0 hx0 ⟨h1, h2⟩

end Go.Proofs.YtgblnlpfgdbnnaaGreat

namespace Go.Proofs.YtgblnlpfgdbnnaaGreat
set_option maxRecDepth 100000
open Go.ChangeShapes Go.WideShapes Go.ChangeAt Go.RowKit

theorem plR_inv {v : Value} {n : Int} {ps : List MemPlace} (h : plR v = some (.lit (.int .i64 n), ps)) : v = .int .i64 n := by
  unfold plR at h
  split at h
  · injection h with h; injection h with h _; injection h with h; injection h with _ h; rw [h]
  · cases h
theorem mp_zero (w : World) : (zeroValue 3).run Tryz.prog w = .ok (.int .i64 0) w := by kernel_rfl

theorem PlAt.hit {u : World} {b m : Nat} {hs : List Ho} (h : PlAt u b hs m) (hr : ∀ x ∈ hs, rightH x = true) (hm : m ≤ hs.length) {j : Nat} (hj : j < m) {s v : Int} (hs' : (hs.getD j z5).r = s) (hv : (hs.getD j z5).n = v) :
    (Instr.lookup 122 (.map (some b)) (.agg #[.int .i64 s, .int .i64 v]) true).run Tryz.prog u = .ok (.tuple #[.int .i64 (j : Int), .bool true]) u := by
  subst hs'; subst hv
  obtain ⟨D, h1, h2, h3, h4⟩ := h
  have := rightH_iff.1 (hr _ (getD_mem (show j < hs.length by omega)))
  obtain ⟨v, ps, hru, hv⟩ := h1.look_ok mp_keyed Tryz.underlying122 (mp_zero u) (show plR (.int .i64 0) = some (.lit (.int .i64 0), []) from rfl) (keyOf_mk (ok64_of (n := (hs.getD j z5).r) (by omega) (by omega)) (ok64_of (n := (hs.getD j z5).n) (by omega) (by omega)))
  rw [(h3 j hj).2] at hv
  rw [hru, (h3 j hj).1, plR_inv hv]
theorem PlAt.miss {u : World} {b m : Nat} {hs : List Ho} (h : PlAt u b hs m) {s v : Int} (h1 : ok64 s) (h2 : ok64 v) (hno : ∀ j, j < m → ¬ ((hs.getD j z5).r = s ∧ (hs.getD j z5).n = v)) :
    (Instr.lookup 122 (.map (some b)) (.agg #[.int .i64 s, .int .i64 v]) true).run Tryz.prog u = .ok (.tuple #[.int .i64 0, .bool false]) u := by
  obtain ⟨D, g1, g2, g3, g4⟩ := h
  have a3 := g4 _ _ h1 h2 hno
  obtain ⟨v, ps, hru, hv'⟩ := g1.look_ok mp_keyed Tryz.underlying122 (mp_zero u) (show plR (.int .i64 0) = some (.lit (.int .i64 0), []) from rfl) (keyOf_mk h1 h2)
  rw [Maps.atKey_of_not_has a3] at hv'
  rw [hru, a3, plR_inv hv']
/-! ### At the operations. -/
theorem run_makeMap_hint (n : Int) (u : World) : (Instr.makeMap 122 (some (.int .i64 n))).run Tryz.prog u = .ok (.map (some u.heap.size)) (u.alloc (.map #[] 0)) := by
  simp [Instr.makeMap, run_underlying Tryz.underlying122, asInt, newObj]
  rfl
theorem map_new {ops : Array Oper} {rest : List Oper} {o : Oper} {a : Act} {w u : World} {l : List (Nat × TypeId × List Int)} {Q : Exit → Act → World → Prop} (hk : KeepR w l u) (hs : List Ho) (hgd : o.guard = none) (x : Operand) (ho : o.op = .makeMap 122 (some x)) {n : Int} (hx : a.eval x = .int .i64 n)
    (h : ∀ b u', w.heap.size ≤ b → KeepR w l u' → PlAt u' b hs 0 → wpList Tryz.prog ops Q rest (a.put o.dst (.map (some b))) u') : wpList Tryz.prog ops Q (o :: rest) a u :=
  wpList_plain hgd fun K hK => by
    have hb : Below u.heap.size u (u.alloc (.map #[] 0)) := (Below.refl _ _).alloc (Nat.le_refl _) _
    have := hK _ _ (h _ _ hk.bel.size (hk.call hb) (PlAt.made u hs))
    unfold Oper.wp
    simp [execOp, ho, hx, run_makeMap_hint, Result.andThen]
    exact this
theorem key_run (p q : Int) (W : World) : (Instr.build 125 #[(0, .int .i64 p), (1, .int .i64 q)]).run Tryz.prog W = .ok (.agg #[.int .i64 p, .int .i64 q]) W := by kernel_rfl
theorem build_key {ops : Array Oper} {rest : List Oper} {o : Oper} {a : Act} {u : World} {Q : Exit → Act → World → Prop} (hgd : o.guard = none) (x y : Operand) (ho : o.op = .build 125 #[(0, x), (1, y)]) {p q : Int}
    (hx : a.eval x = .int .i64 p) (hy : a.eval y = .int .i64 q)
    (h : wpList Tryz.prog ops Q rest (a.put o.dst (.agg #[.int .i64 p, .int .i64 q])) u) : wpList Tryz.prog ops Q (o :: rest) a u :=
  wpList_plain hgd fun K hK => by
    unfold Oper.wp execOp
    simp only [ho, List.map_toArray, List.map_cons, List.map_nil, hx, hy, Sem.run_bind, Sem.run_pure, Result.andThen_ok, key_run]
    exact hK _ _ h
theorem map_put {ops : Array Oper} {rest : List Oper} {o : Oper} {a : Act} {w u : World} {l : List (Nat × TypeId × List Int)} {Q : Exit → Act → World → Prop} (hk : KeepR w l u) {b m : Nat} {hs : List Ho} (hm : PlAt u b hs m) (hw : w.heap.size ≤ b) (hml : m < hs.length) (hn : m < 1000) (hr : ∀ x ∈ hs, rightH x = true) (hp : hs.Pairwise AH) {h0 : Ho} (hh : hs.getD m z5 = h0)
    (hgd : o.guard = none) (mm x v : Operand) (ho : o.op = .mapUpdate 122 mm x v) (hd : o.dst = none) (em : a.eval mm = .map (some b)) (ex : a.eval x = .agg #[.int .i64 h0.r, .int .i64 h0.n]) (ev : a.eval v = .int .i64 (m : Int))
    (h : ∀ u', KeepR w l u' → PlAt u' b hs (m + 1) → wpList Tryz.prog ops Q rest a u') : wpList Tryz.prog ops Q (o :: rest) a u :=
  wpList_plain hgd fun K hK => by
    obtain ⟨u', hru, hm', ht⟩ := hm.put hml hn hr hp
    rw [hh] at hru
    have := hK _ _ (h u' (hk.turned hw ht) hm')
    have e : a.put o.dst undef = a := by rw [hd]; rfl
    rw [← e] at this
    unfold Oper.wp
    simp [execOp, ho, em, ex, ev, hru, Result.andThen]
    exact this
theorem map_hit {ops : Array Oper} {rest : List Oper} {o : Oper} {a : Act} {u : World} {Q : Exit → Act → World → Prop} {b m : Nat} {hs : List Ho} (hm : PlAt u b hs m) (hr : ∀ x ∈ hs, rightH x = true) (hml : m ≤ hs.length) {j : Nat} (hj : j < m) {s v : Int} (hs' : (hs.getD j z5).r = s) (hv : (hs.getD j z5).n = v) (hgd : o.guard = none) (mm x : Operand) (ho : o.op = .lookup 122 mm x true)
    (em : a.eval mm = .map (some b)) (ex : a.eval x = .agg #[.int .i64 s, .int .i64 v]) (h : wpList Tryz.prog ops Q rest (a.put o.dst (.tuple #[.int .i64 (j : Int), .bool true])) u) : wpList Tryz.prog ops Q (o :: rest) a u :=
  wpList_plain hgd fun K hK => by
    unfold Oper.wp
    simp [execOp, ho, em, ex, hm.hit hr hml hj hs' hv, Result.andThen]
    exact hK _ _ h
theorem map_miss {ops : Array Oper} {rest : List Oper} {o : Oper} {a : Act} {u : World} {Q : Exit → Act → World → Prop} {b m : Nat} {hs : List Ho} (hm : PlAt u b hs m) {s v : Int} (h1 : ok64 s) (h2 : ok64 v) (hno : ∀ j, j < m → ¬ ((hs.getD j z5).r = s ∧ (hs.getD j z5).n = v)) (hgd : o.guard = none) (mm x : Operand) (ho : o.op = .lookup 122 mm x true)
    (em : a.eval mm = .map (some b)) (ex : a.eval x = .agg #[.int .i64 s, .int .i64 v]) (h : wpList Tryz.prog ops Q rest (a.put o.dst (.tuple #[.int .i64 0, .bool false])) u) : wpList Tryz.prog ops Q (o :: rest) a u :=
  wpList_plain hgd fun K hK => by
    unfold Oper.wp
    simp [execOp, ho, em, ex, hm.miss h1 h2 hno, Result.andThen]
    exact hK _ _ h
set_option maxHeartbeats 2000000 in
theorem places_any (A : Option Addr) (n c : Nat) (hs : List Ho) (w : World) (hd : Row w A n hs) (hrt : rightsL hs = true) :
    Calls Tryz.prog 95 #[.slice A n c] w fun e w' => ∃ b, e = .returned (.map (some b)) ∧ PlAt w' b hs n ∧ w.heap.size ≤ b ∧ Below w.heap.size w w' := by
  have HD := Lib.hid hd; have HL := Lib.hid hd.1; have HNB := Lib.hid hd.2.1; clear hd
  have HRH := Lib.hid (rights_iff.1 hrt).2.1; have HPW := Lib.hid (rights_iff.1 hrt).2.2
  clear hrt
  have HK := Lib.hid (KeepR.start w)
  go_enter Tryz.func95, Tryz.ntmps95
  go_wp2_with (first
    | (with_reducible refine map_new HK.out hs rfl _ rfl rfl ?_; intro bm u hw hk hp; have HW := Lib.hid hw; have HP := Lib.hid hp; clear hw hp; clear HK; have HK := Lib.hid hk; clear hk))
  go_loopw [11] (fun i wr => ∃ m : Nat, m ≤ n ∧ i = .int .i64 m ∧ PlAt wr bm hs m ∧ KeepR w [] wr) (fun i _ => n - (intOf i).toNat)
  case atStart => exact ⟨0, by omega, rfl, HP.out, HK.out⟩
  case round =>
    obtain ⟨m, hm, rfl, hp, hk⟩ := hrel
    clear HK HP
    have HK := Lib.hid hk; have HP := Lib.hid hp
    clear hk hp
    by_cases hlt : m < n
    · have hnb := HNB.out
      have HML := Lib.hid (show m < hs.length by have := HL.out; omega)
      have HM1 := Lib.hid (show m < 1000 by omega)
      obtain ⟨b, off, rfl, hr⟩ := HD.out.at hlt
      have hrm := hr m hlt
      clear hr
      obtain ⟨h, hh⟩ : ∃ h, hs.getD m z5 = h := ⟨_, rfl⟩
      rw [hh] at hrm
      have HH := Lib.hid hh
      have HR := Lib.hid hrm; have HC := Lib.hid (range_lt hrm)
      clear hrm hh
      have i1 : (0 : Int) ≤ (m : Int) := by omega
      have i2 : (m : Int) < (n : Int) := by omega
      go_wp2_with (first
        | (with_reducible refine load_hold (range_below HR.out HK.out.bel HC.out) _ rfl rfl rfl ?_)
        | (with_reducible refine alloc_zero HK.out 5 h_zero rfl rfl ?_; intro bh u hn0 hk hb; have hp0 := HP.out.below hb; clear HP; have HP := Lib.hid hp0; clear hp0; clear hn0 hb; clear HK; have HK := Lib.hid hk; clear hk)
        | (with_reducible refine store_all HK.out 0 5 h_info rfl rfl _ _ rfl rfl rfl rfl (Ho.len _) (zer_length 5) ?_; intro u hk hs0; have hp0 := HP.out.store (HK.out.get 0 rfl) hs0; clear HP; have HP := Lib.hid hp0; clear hp0 hs0; simp only [List.set_cons_zero] at hk; clear HK; have HK := Lib.hid hk; clear hk)
        | (with_reducible refine load_val HK.out 0 rfl _ rfl rfl rfl (Ho.g0 _) (Ho.p0 _) ?_)
        | (with_reducible refine load_val HK.out 0 rfl _ rfl rfl rfl (Ho.g1 _) (Ho.p1 _) ?_)
        | (with_reducible refine build_key rfl _ _ rfl rfl rfl ?_)
        | (with_reducible refine map_put HK.out HP.out HW.out HML.out HM1.out HRH.out HPW.out HH.out rfl _ _ _ rfl rfl rfl rfl rfl ?_; intro u hk hp0; clear HP; have HP := Lib.hid hp0; clear hp0; clear HK; have HK := Lib.hid hk; clear hk))
      go_roundw
      case rel => exact ⟨m + 1, by omega, by go_num, HP.out, HK.out.tail⟩
      case measure => simp [intOf]; omega
    · obtain rfl : m = n := by omega
      go_wp2
      go_ret
      exact ⟨bm, rfl, HP.out, HW.out, HK.out.bel⟩

/-! ### Sums. -/
/-! ### Epochs. -/
/-! ### What is applied. -/
theorem app_one {ps xs ys : List Pf} {p : Pl} (h : Goes ps p) (hx : Applied ps p xs) (hy : Applied ps p ys) : xs = ys :=
  sorted_one (app_sorted h hx) (app_sorted h hy) fun _ => (app_mem h hx).trans (app_mem h hy).symm
/-! ### Whom a plan is about. -/

end Go.Proofs.YtgblnlpfgdbnnaaGreat
