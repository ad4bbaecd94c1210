/- The document's Fields; Total of both.; What there is of fields (plan.spans), and the epoch behind theirs (plan.next).; What a plan would make: drafts, the closures of plan.makings, and the map of them.; A field that is built. -/
import Derived.Test.YtgblnlpfgdbnnaaGreatZ25A
import Derived.Shelf.Abstract
namespace Go.Proofs.YtgblnlpfgdbnnaaGreat
set_option maxRecDepth 100000
open Go.ChangeShapes Go.WideShapes Go.ChangeAt Go.RowKit

/-! ### All views. -/
def vN (p : Pf) : Int := viewN (p.fd none 0)
def vE (p : Pf) : Int := viewE (p.fd none 0)
def okP (p : Pf) : Prop := (p.fd none 0).ok
def errP (ps : List Pf) : Int := ((ps.map vE).find? (fun e => !(e == 0))).getD 0
def totN (ps : List Pf) : Int := if errP ps = 0 then sumN (ps.map vN) else 0
def totE (ps : List Pf) : Int := if errP ps = 0 then sumE (ps.map vN) else errP ps
theorem view_q (p : Pf) (hp : p.full) (ho : okP p) (A : Option Addr) (c : Nat) (w : World) :
    Calls Tryz.prog 29 #[.agg (p.fd A c).cells.toArray] w fun e w' => e = .returned (.tuple #[.int .i64 (vN p), .int .i64 (vE p)]) ∧ Below w.heap.size w w' := view_any (p.fd A c) hp ho w
theorem err_hit {ps : List Pf} {m : Nat} {p : Pf} (hb : ∀ j q, j < m → ps[j]? = some q → vE q = 0) (hm : ps[m]? = some p) (hp : vE p ≠ 0) : errP ps = vE p := by
  have h1 : ps = ps.take m ++ p :: ps.drop (m + 1) := by
    obtain ⟨hl, he⟩ := List.getElem?_eq_some_iff.1 hm
    rw [← he, List.getElem_cons_drop, List.take_append_drop]
  have h2 : ((ps.take m).map vE).find? (fun e => !(e == 0)) = none := by
    rw [List.find?_eq_none]
    intro e he
    obtain ⟨q, hq, rfl⟩ := List.mem_map.1 he
    obtain ⟨j, hj⟩ := List.mem_iff_getElem?.1 hq
    have hjm : j < m := by
      have := (List.getElem?_eq_some_iff.1 hj).1
      rw [List.length_take] at this; omega
    rw [List.getElem?_take, if_pos hjm] at hj
    simp [hb j q hjm hj]
  unfold errP
  rw [h1, List.map_append, List.find?_append, h2, List.map_cons, List.find?_cons]
  simp only [show (!(vE p == 0)) = true by simpa using hp]
  rfl
theorem err_none {ps : List Pf} (hb : ∀ j q, j < ps.length → ps[j]? = some q → vE q = 0) : errP ps = 0 := by
  unfold errP
  have h2 : (ps.map vE).find? (fun e => !(e == 0)) = none := by
    rw [List.find?_eq_none]
    intro e he
    obtain ⟨q, hq, rfl⟩ := List.mem_map.1 he
    obtain ⟨j, hj⟩ := List.mem_iff_getElem?.1 hq
    simp [hb j q (List.getElem?_eq_some_iff.1 hj).1 hj]
  rw [h2]; rfl
/-- Numbers that were written so far, zeros behind them. -/
def vrow (ps : List Pf) (n m : Nat) : List Int := (ps.take m).map vN ++ zer (n - m)
theorem vrow_len {ps : List Pf} {n m : Nat} (hp : ps.length = n) (hm : m ≤ n) : (vrow ps n m).length = n := by
  simp [vrow, zer_length, hp]; omega
theorem vrow_0 (ps : List Pf) (n : Nat) : vrow ps n 0 = zer n := by simp [vrow]
theorem vrow_put {ps : List Pf} {n m : Nat} (hp : ps.length = n) {p : Pf} (hm : ps[m]? = some p) (hlt : m < n) : (vals (vrow ps n m)).set m (.int .i64 (vN p)) = vals (vrow ps n (m + 1)) := by
  have h1 : zer (n - m) = 0 :: zer (n - (m + 1)) := by
    rw [show n - m = (n - (m + 1)) + 1 by omega]; rfl
  have h2 : ((ps.take m).map vN).length = m := by rw [List.length_map, List.length_take]; omega
  have h3 : ps.take (m + 1) = ps.take m ++ [p] := by rw [List.take_add_one, hm]; rfl
  unfold vrow
  rw [h1, h3, List.map_append]
  simp only [vals, List.map_append, List.map_cons, List.map_nil]
  rw [List.set_append_right _ _ (by simp; omega)]
  simp only [List.length_map, List.length_take]
  rw [show m - min m ps.length = 0 by omega]
  simp
theorem vrow_all {ps : List Pf} {n : Nat} (hp : ps.length = n) : vrow ps n n = ps.map vN := by
  simp [vrow, ← hp, zer]
theorem make_ki {ops : Array Oper} {rest : List Oper} {o : Oper} {a : Act} {w u : World} {F : Nat → Prop} {own ro : List Th} {Q : Exit → Act → World → Prop} (hk : Kg w F own ro u) (n : Nat) (hn : n ≤ 1048576)
    (hgd : o.guard = none) (x y : Operand) (ho : o.op = .makeSlice 63 x y) (hx : a.eval x = .int .i64 (n : Int)) (hy : a.eval y = .int .i64 (n : Int))
    (h : ∀ b u', Kg w F (Th.cel b 3 (vals (zer n)) :: own) ro u' → wpList Tryz.prog ops Q rest (a.put o.dst (.slice (some ⟨b, 0, none⟩) n n)) u') : wpList Tryz.prog ops Q (o :: rest) a u :=
  wpList_plain hgd fun K hK => by
    have e := run_make_row' (P := Tryz.prog) 63 3 (.int .i64 0) 8 Tryz.underlying63 int_info rfl .i64 .i64 n (by omega) (by omega) u
    rw [made_zero] at e
    unfold Oper.wp execOp
    simp only [ho, hx, hy, Sem.run_bind, Sem.run_pure, Result.andThen_ok, e]
    exact hK _ _ (h _ _ (hk.new rfl))
theorem Kg.reads {w u : World} {F : Nat → Prop} {own ro : List Th} (h : Kg w F own ro u) (i : Nat) {b : Nat} {zs : List Int} {n : Nat} (hi : own[i]? = some (Th.cel b 3 (vals zs))) (hl : zs.length = n) (hn : n ≤ 1000) : Reads u (some ⟨b, 0, none⟩) n zs :=
  ⟨hl, by simp only [maxLen]; omega, .inr ⟨b, 0, rfl, fun i' hi' => by
    rw [Nat.zero_add]
    exact (h.celAt i hi).cell (vals_get (by omega))⟩⟩
set_option maxHeartbeats 2000000 in
theorem total_any (A : Option Addr) (n c : Nat) (qs : List Q) (hn : n ≤ 1000) (hO : ∀ x ∈ qs, okP x.1) (w : World) (hd : FR w A n qs) :
    Calls Tryz.prog 10 #[.slice A n c] w fun e w' => e = .returned (.tuple #[.int .i64 (totN (pfs qs)), .int .i64 (totE (pfs qs))]) ∧ Below w.heap.size w w' := by
  have HD := Lib.hid hd
  have HPL := Lib.hid (show (pfs qs).length = n by rw [pfs_len]; exact hd.1)
  clear hd
  have HK := Lib.hid (Kg.start w)
  go_enter Tryz.func10, Tryz.ntmps10
  go_wp2_with (first
    | ((with_reducible refine make_ki HK.out n (by omega) rfl _ _ rfl rfl rfl ?_); intro bv u hk; clear HK; have HK := Lib.hid hk; clear hk))
  go_loopw [14] (fun i wr => ∃ m : Nat, m ≤ n ∧ i = .int .i64 m ∧ (∀ j q, j < m → (pfs qs)[j]? = some q → vE q = 0) ∧ Kg w (fun _ => False) [Th.cel bv 3 (vals (vrow (pfs qs) n m))] [] wr) (fun i _ => n - (intOf i).toNat)
  case atStart => exact ⟨0, by omega, rfl, fun j q hj => by omega, by rw [vrow_0]; exact HK.out⟩
  case round =>
    obtain ⟨m, hm, rfl, hq, hk⟩ := hrel
    have HQ := Lib.hid hq; clear hq
    clear HK; have HK := Lib.hid hk; clear hk
    by_cases hlt : m < n
    · obtain ⟨x, hx⟩ := HD.out.get hlt
      obtain ⟨b, off, rfl, hr⟩ := HD.out.base (by omega)
      have HM := Lib.hid hlt
      have HX := Lib.hid (pfs_at hx)
      have HF := Lib.hid (HD.out.full hx)
      have HR := Lib.hid (hr m x hx)
      have hvw := fun w => view_q x.1 (HD.out.full hx) (hO x (List.mem_of_getElem? hx)) x.2.1 x.2.2 w
      have i1 : (0 : Int) ≤ (m : Int) := by omega
      have i2 : (m : Int) < (n : Int) := by omega
      by_cases he : vE x.1 = 0
      · have HE := Lib.hid he
        have HL := Lib.hid (show m < (vals (vrow (pfs qs) n m)).length by rw [vals_length, vrow_len HPL.out (by omega)]; exact hlt)
        have HS := Lib.hid (vrow_put HPL.out HX.out hlt)
        rw [he] at hvw
        clear hr hO hx he
        go_wp2_with (first
          | (with_reducible refine load_kg Tryz.underlying43 rfl (Pf.infoF HF.out) _ rfl (rng_below HR.out HK.out.mf.bel) rfl rfl ?_)
          | ((with_reducible refine alloc_k HK.out f_zeroP rfl rfl ?_); intro b4 u hk; clear HK; have HK := Lib.hid hk; clear hk)
          | ((with_reducible refine store_kr HK.out 0 (Pf.infoF HF.out) (Fd.one _) rfl rfl _ _ rfl rfl rfl rfl (Fd.leP zP_full HF.out) (Fd.setAllP zP_full HF.out) ?_); intro u hk; simp only [List.set_cons_zero] at hk; clear HK; have HK := Lib.hid hk; clear hk)
          | (with_reducible refine load_kr HK.out 0 Tryz.underlying43 rfl (Pf.infoF HF.out) _ rfl rfl rfl rfl Pf.all ?_)
          | (go_at_call 29; (with_reducible refine (hvw _).mono ?_); rintro e u ⟨rfl, hb⟩; have hk := HK.out.call hb; clear hb; clear HK; have HK := Lib.hid hk; clear hk)
          | ((refine store_k1 HK.out 1 ckI rfl rfl _ _ rfl rfl rfl rfl rfl HL.out HS.out ?_); intro u hk; simp only [List.set_cons_zero, List.set_cons_succ] at hk; clear HK; have HK := Lib.hid hk; clear hk))
        go_roundw
        case rel => exact ⟨m + 1, by have := HM.out; omega, by go_num, fun j q hj hq => by
          rcases Nat.lt_or_ge j m with h3 | h3
          · exact HQ.out j q h3 hq
          · obtain rfl : m = j := by omega
            rw [HX.out] at hq
            injection hq with hq
            rw [← hq]; exact HE.out, HK.out.tail⟩
        case measure => have := HM.out; simp [intOf]; omega
      · have HE := Lib.hid (err_hit HQ.out HX.out he)
        have HT := Lib.hid (show totN (pfs qs) = 0 by rw [totN, if_neg (by rw [HE.out]; exact he)])
        have HU := Lib.hid (show totE (pfs qs) = vE x.1 by rw [totE, if_neg (by rw [HE.out]; exact he), HE.out])
        have d0 : (vE x.1 != 0) = true := by simpa using he
        clear hr hO hx he
        go_wp2_with (first
          | (with_reducible refine load_kg Tryz.underlying43 rfl (Pf.infoF HF.out) _ rfl (rng_below HR.out HK.out.mf.bel) rfl rfl ?_)
          | ((with_reducible refine alloc_k HK.out f_zeroP rfl rfl ?_); intro b4 u hk; clear HK; have HK := Lib.hid hk; clear hk)
          | ((with_reducible refine store_kr HK.out 0 (Pf.infoF HF.out) (Fd.one _) rfl rfl _ _ rfl rfl rfl rfl (Fd.leP zP_full HF.out) (Fd.setAllP zP_full HF.out) ?_); intro u hk; simp only [List.set_cons_zero] at hk; clear HK; have HK := Lib.hid hk; clear hk)
          | (with_reducible refine load_kr HK.out 0 Tryz.underlying43 rfl (Pf.infoF HF.out) _ rfl rfl rfl rfl Pf.all ?_)
          | (go_at_call 29; (with_reducible refine (hvw _).mono ?_); rintro e u ⟨rfl, hb⟩; have hk := HK.out.call hb; clear hb; clear HK; have HK := Lib.hid hk; clear hk))
        go_ret2
        exact ⟨by rw [HT.out, HU.out]; rfl, HK.out.mf.bel⟩
    · obtain rfl : m = n := by omega
      have HE := Lib.hid (err_none (ps := pfs qs) fun j q hj => HQ.out j q (by rw [HPL.out] at hj; exact hj))
      obtain ⟨V, hV⟩ : ∃ V, (pfs qs).map vN = V := ⟨_, rfl⟩
      have HT := Lib.hid (show totN (pfs qs) = sumN V by rw [totN, if_pos HE.out, hV])
      have HU := Lib.hid (show totE (pfs qs) = sumE V by rw [totE, if_pos HE.out, hV])
      have HVL := Lib.hid (show V.length = m by rw [← hV, List.length_map]; exact HPL.out)
      have hk := HK.out
      rw [vrow_all HPL.out, hV] at hk
      clear HK; have HK := Lib.hid hk; clear hk
      clear hV
      go_wp2_with (first
        | (go_at_call 30; (with_reducible refine (sum_any _ _ _ _ _ (HK.out.reads 0 rfl HVL.out hn)).mono ?_); rintro e u ⟨rfl, hb⟩; have hk := HK.out.call hb; clear hb; clear HK; have HK := Lib.hid hk; clear hk))
      go_ret2
      exact ⟨by rw [HT.out, HU.out]; rfl, HK.out.mf.bel⟩

/-- A value and its bounds. -/
structure Sp where
  v : Int
  lo : Int
  hi : Int
def Sp.cells (s : Sp) : List Value := [.int .i64 s.v, .int .i64 s.lo, .int .i64 s.hi]
theorem Sp.c0 {s : Sp} : s.cells[0]? = some (.int .i64 s.v) := rfl
theorem Sp.c1 {s : Sp} : s.cells[1]? = some (.int .i64 s.lo) := rfl
theorem Sp.c2 {s : Sp} : s.cells[2]? = some (.int .i64 s.hi) := rfl
theorem Sp.len {s : Sp} : s.cells.length = 3 := rfl
theorem sp_info {s : Sp} : (Tryz.prog.info? 112).map (·.size) = some s.cells.length := by rw [Sp.len]; kernel_rfl
theorem sp_info3 : (Tryz.prog.info? 112).map (fun i => (i.zero, i.size, i.bytes)) = some (some (.agg (vals [0, 0, 0]).toArray), 3, 24) := by kernel_rfl
theorem sp_zero : (Tryz.prog.info? 112).bind (·.zero) = some (.agg (Sp.cells ⟨0, 0, 0⟩).toArray) := by kernel_rfl
theorem Sp.ones {s : Sp} : ∀ y ∈ s.cells, y.oneCell' = true := fun y hy => by
  simp only [Sp.cells, List.mem_cons, List.not_mem_nil, or_false] at hy
  rcases hy with rfl | rfl | rfl <;> rfl
theorem Sp.one {s : Sp} : s.cells.toArray.all (·.oneCell') = true := all_oneCell_toArray Sp.ones
theorem Sp.all {s : Sp} : ∀ j v, s.cells[j]? = some v → s.cells[0 + j]? = some v := fun j v h => by rw [Nat.zero_add]; exact h
theorem Sp.put {s t : Sp} : spl s.cells 0 t.cells = t.cells := rfl
theorem Sp.le {s t : Sp} : 0 + t.cells.length ≤ s.cells.length := Nat.le_refl 3
theorem sp_build (x y z : Int) (W : World) : (Instr.build 112 #[(0, .int .i64 x), (1, .int .i64 y), (2, .int .i64 z)]).run Tryz.prog W = .ok (.agg (Sp.cells ⟨x, y, z⟩).toArray) W := by kernel_rfl
theorem sp_build1 (x : Int) (W : World) : (Instr.build 112 #[(0, .int .i64 x)]).run Tryz.prog W = .ok (.agg (Sp.cells ⟨x, 0, 0⟩).toArray) W := by kernel_rfl
theorem sp_build0 (W : World) : (Instr.build 112 #[]).run Tryz.prog W = .ok (.agg (Sp.cells ⟨0, 0, 0⟩).toArray) W := by kernel_rfl
section
variable {ops : Array Oper} {rest : List Oper} {o : Oper} {a : Act} {w u : World} {F : Nat → Prop} {own ro : List Th} {Q' : Exit → Act → World → Prop}
theorem build_sp (hgd : o.guard = none) (x0 x1 x2 : Operand) (ho : o.op = .build 112 #[(0, x0), (1, x1), (2, x2)]) {x y z : Int} (h0 : a.eval x0 = .int .i64 x) (h1 : a.eval x1 = .int .i64 y) (h2 : a.eval x2 = .int .i64 z)
    (h : wpList Tryz.prog ops Q' rest (a.put o.dst (.agg (Sp.cells ⟨x, y, z⟩).toArray)) u) : wpList Tryz.prog ops Q' (o :: rest) a u :=
  wpList_plain hgd fun K hK => by
    unfold Oper.wp execOp
    simp only [ho, List.map_toArray, List.map_cons, List.map_nil, h0, h1, h2, Sem.run_bind, Sem.run_pure, Result.andThen_ok, sp_build]
    exact hK _ _ h
theorem build_sp1 (hgd : o.guard = none) (x0 : Operand) (ho : o.op = .build 112 #[(0, x0)]) {x : Int} (h0 : a.eval x0 = .int .i64 x)
    (h : wpList Tryz.prog ops Q' rest (a.put o.dst (.agg (Sp.cells ⟨x, 0, 0⟩).toArray)) u) : wpList Tryz.prog ops Q' (o :: rest) a u :=
  wpList_plain hgd fun K hK => by
    unfold Oper.wp execOp
    simp only [ho, List.map_toArray, List.map_cons, List.map_nil, h0, Sem.run_bind, Sem.run_pure, Result.andThen_ok, sp_build1]
    exact hK _ _ h
theorem build_sp0 (hgd : o.guard = none) (ho : o.op = .build 112 #[])
    (h : wpList Tryz.prog ops Q' rest (a.put o.dst (.agg (Sp.cells ⟨0, 0, 0⟩).toArray)) u) : wpList Tryz.prog ops Q' (o :: rest) a u :=
  wpList_plain hgd fun K hK => by
    unfold Oper.wp execOp
    simp only [ho, List.map_toArray, List.map_nil, Sem.run_bind, Sem.run_pure, Result.andThen_ok, sp_build0]
    exact hK _ _ h
theorem run_build_sp (s : Sp) (u : World) : (Instr.buildSlice 103 1 #[(0, .agg s.cells.toArray)]).run Tryz.prog u = .ok (.slice (some ⟨u.heap.size, 0, none⟩) 1 1) (u.alloc (.cells s.cells.toArray 112)) := by
  obtain ⟨i0, hi0, hz0, hz1, hz2⟩ := info_parts sp_info3
  simp [Instr.buildSlice, run_underlying Tryz.underlying103, sizeOf, typeInfo, zeroValue, hi0, hz0, hz1, Instr.fill, Value.cells, newRow, newObj, vals, Sp.cells, set_three]
  rfl
theorem buildSp_k (hk : Kg w F own ro u) (hgd : o.guard = none) (x : Operand) (ho : o.op = .buildSlice 103 1 #[(0, x)]) {s : Sp} (hx : a.eval x = .agg s.cells.toArray)
    (h : ∀ b u', Kg w F (Th.cel b 112 s.cells :: own) ro u' → wpList Tryz.prog ops Q' rest (a.put o.dst (.slice (some ⟨b, 0, none⟩) 1 1)) u') : wpList Tryz.prog ops Q' (o :: rest) a u :=
  wpList_plain hgd fun _ hK => by
    unfold Oper.wp execOp
    simp only [ho, List.map_toArray, List.map_cons, List.map_nil, hx, Sem.run_bind, Sem.run_pure, Result.andThen_ok, run_build_sp]
    exact hK _ _ (h _ _ (hk.new rfl))
end
def spcs (l : List Sp) : List Value := l.flatMap Sp.cells
theorem spcs_app (l : List Sp) (s : Sp) : spcs (l ++ [s]) = spcs l ++ s.cells := by simp [spcs]
theorem spcs_get : ∀ {l : List Sp} {i : Nat} {s : Sp} (_ : l[i]? = some s) (j : Nat) (v : Value), s.cells[j]? = some v → (spcs l)[i * 3 + j]? = some v
  | [], _, _, h, _, _, _ => by simp at h
  | x :: l, 0, s, h, j, v, hv => by
    have e : x = s := by simpa using h
    subst e
    rw [Nat.zero_mul, Nat.zero_add, show spcs (x :: l) = x.cells ++ spcs l from rfl, List.getElem?_append_left (List.getElem?_eq_some_iff.1 hv).1]
    exact hv
  | x :: l, i + 1, s, h, j, v, hv => by
    rw [show spcs (x :: l) = x.cells ++ spcs l from rfl, List.getElem?_append_right (by rw [Sp.len]; omega), Sp.len, show (i + 1) * 3 + j - 3 = i * 3 + j by omega]
    exact spcs_get (by simpa using h) j v hv
/-- A slice of these reads so. -/
def SR (w : World) (A : Option Addr) (n : Nat) (l : List Sp) : Prop := l.length = n ∧ (n = 0 ∨ ∃ b off : Nat, A = some ⟨b, off, none⟩ ∧ ∀ i s, l[i]? = some s → w.rangeAt b (off + i * 3) s.cells)
theorem SR.below {w u : World} {A : Option Addr} {n : Nat} {l : List Sp} (h : SR w A n l) (hb : Below w.heap.size w u) : SR u A n l := by
  refine ⟨h.1, ?_⟩
  rcases h.2 with h1 | ⟨b, off, rfl, h1⟩
  · exact .inl h1
  · exact .inr ⟨b, off, rfl, fun i s hs => rng_below (h1 i s hs) hb⟩
theorem SR.base {w : World} {A : Option Addr} {n : Nat} {l : List Sp} (h : SR w A n l) (hn : n ≠ 0) : ∃ b off : Nat, A = some ⟨b, off, none⟩ ∧ ∀ i s, l[i]? = some s → w.rangeAt b (off + i * 3) s.cells := h.2.resolve_left hn
theorem SR.get {w : World} {A : Option Addr} {n : Nat} {l : List Sp} (h : SR w A n l) {i : Nat} (hi : i < n) : ∃ s, l[i]? = some s := ⟨_, List.getElem?_eq_getElem (by rw [h.1]; exact hi)⟩
theorem og_sr {u : World} {A : Option Addr} {n c base : Nat} {l : List Sp} (h : u.ownsRow base 112 3 (.slice A n c) l.length (spcs l)) : SR u A l.length l := by
  refine ⟨rfl, ?_⟩
  by_cases h0 : l.length = 0
  · exact .inl h0
  · obtain ⟨s0, hs0⟩ : ∃ s0, l[0]? = some s0 := ⟨_, List.getElem?_eq_getElem (by omega)⟩
    have hc0 : (spcs l)[0 * 3 + 0]? = some (.int .i64 s0.v) := spcs_get hs0 0 _ Sp.c0
    obtain ⟨g, rfl, _, _⟩ := og_cell h hc0
    refine .inr ⟨g, 0, rfl, fun i s hs j v hv => ?_⟩
    have hcj : (spcs l)[i * 3 + j]? = some v := spcs_get hs j v hv
    obtain ⟨g', e, hc, _⟩ := og_cell h hcj
    have e2 : g = g' := congrArg (fun a : Option Addr => a.elim 0 Addr.block) e
    rw [Nat.zero_add, e2]
    exact hc
def loP (p : Pf) : Int := p.C.getD 1 0
def hiP (p : Pf) : Int := p.C.getD 2 0
theorem SR.at0 {w : World} {b off n : Nat} {l : List Sp} (h : SR w (some ⟨b, off, none⟩) n l) (hn : n ≠ 0) : b < w.heap.size := by
  obtain ⟨b', off', e, hr⟩ := h.base hn
  injection e with e; injection e with e1 e2
  subst e1; subst e2
  obtain ⟨s, hs⟩ := h.get (i := 0) (by omega)
  exact cell_lt (a := ⟨b, off + 0 * 3 + 0, none⟩) (hr 0 s hs 0 _ Sp.c0)
def Th.sr (A : Option Addr) (n : Nat) (l : List Sp) : Th :=
  ⟨fun k => n ≠ 0 ∧ ∃ a, A = some a ∧ a.block = k, fun u => SR u A n l, fun {u u'} h hb => by
    obtain ⟨h1, h2⟩ := h
    refine ⟨h1, ?_⟩
    rcases h2 with h2 | ⟨b, off, rfl, h2⟩
    · exact .inl h2
    · by_cases hn : n = 0
      · exact .inl hn
      · exact .inr ⟨b, off, rfl, fun i s hs => rng_stay (h2 i s hs) (hb b ⟨hn, _, rfl, rfl⟩)⟩, fun {u k} h hk => by
    obtain ⟨hn, a, ha, rfl⟩ := hk
    obtain ⟨b, off, rfl, _⟩ := h.base hn
    injection ha with ha
    subst ha
    exact h.at0 hn⟩
theorem Kg.sr {w u : World} {F : Nat → Prop} {own ro : List Th} (h : Kg w F own ro u) (i : Nat) {A : Option Addr} {n : Nat} {l : List Sp} (hi : ro[i]? = some (Th.sr A n l)) : SR u A n l := h.see i hi
theorem Kg.srMade {w u u' : World} {F : Nat → Prop} {own ro : List Th} (h : Kg w F own ro u) {A : Option Addr} {n c : Nat} {l : List Sp} (hl : l.length = n) (hb : Below u.heap.size u u') (ho : u'.ownsRow u.heap.size 112 3 (.slice A n c) n (spcs l)) : Kg w F own (Th.sr A n l :: ro) u' := by
  subst hl
  refine h.made hb (t := Th.sr A l.length l) (og_sr ho) fun k hk => ?_
  obtain ⟨_, a, ha, rfl⟩ := hk
  refine (row_lt ho ?_).2
  subst ha; rfl
def spanP (p : Pf) : Sp := ⟨vN p, loP p, hiP p⟩
theorem Pf.c4 {p : Pf} {A : Option Addr} {c : Nat} (h : p.full) : (p.fd A c).cells[4]? = some (.int .i64 (loP p)) := Fd.cI (f := p.fd A c) h (j := 1) (by omega)
theorem Pf.c5 {p : Pf} {A : Option Addr} {c : Nat} (h : p.full) : (p.fd A c).cells[5]? = some (.int .i64 (hiP p)) := Fd.cI (f := p.fd A c) h (j := 2) (by omega)
theorem spcs_take {ps : List Pf} {m : Nat} {p : Pf} (h : ps[m]? = some p) : spcs ((ps.take m).map spanP) ++ Sp.cells ⟨vN p, loP p, hiP p⟩ = spcs ((ps.take (m + 1)).map spanP) := by
  rw [List.take_add_one, h, Option.toList_some, List.map_append, List.map_cons, List.map_nil, spcs_app]; rfl
set_option maxHeartbeats 2000000 in
theorem spans_any (A : Option Addr) (n c : Nat) (qs : List Q) (hn : n ≤ 1000) (hO : ∀ x ∈ qs, okP x.1) (w : World) (hd : FR w A n qs) :
    Calls Tryz.prog 83 #[.slice A n c] w fun e u => ∃ v, e = .returned (.tuple #[v, .int .i64 (errP (pfs qs))]) ∧ Below w.heap.size w u ∧ (errP (pfs qs) = 0 → ∃ A' c', v = .slice A' n c' ∧ u.ownsRow w.heap.size 112 3 (.slice A' n c') n (spcs ((pfs qs).map spanP))) := by
  have HD := Lib.hid hd
  have HPL := Lib.hid (show (pfs qs).length = n by rw [pfs_len]; exact hd.1)
  clear hd
  have HK := Lib.hid (Kg.start w)
  go_enter Tryz.func83, Tryz.ntmps83
  go_wp2
  go_loopw [4, 11] (fun v i wr => ∃ m : Nat, m ≤ n ∧ i = .int .i64 m ∧ (∀ j q, j < m → (pfs qs)[j]? = some q → vE q = 0) ∧ Kg w (fun _ => False) [Th.og 112 3 v m (spcs (((pfs qs).take m).map spanP))] [] wr) (fun _ i _ => n - (intOf i).toNat)
  case atStart => exact ⟨0, by omega, rfl, fun j q hj => by omega, HK.out.add (Below.refl _ _) (og_nil _ _ _) (fun k hk => by cases hk)⟩
  case round =>
    obtain ⟨m, hm, rfl, hq, hk⟩ := hrel
    have HQ := Lib.hid hq; clear hq
    clear HK; have HK := Lib.hid hk; clear hk
    by_cases hlt : m < n
    · obtain ⟨x, hx⟩ := HD.out.get hlt
      obtain ⟨b, off, rfl, hr⟩ := HD.out.base (by omega)
      have HM := Lib.hid hlt
      have HM8 := Lib.hid (show m ≤ 1000 by omega)
      have HX := Lib.hid (pfs_at hx)
      have HF := Lib.hid (HD.out.full hx)
      have HR := Lib.hid (hr m x hx)
      have hvw := fun w => view_q x.1 (HD.out.full hx) (hO x (List.mem_of_getElem? hx)) x.2.1 x.2.2 w
      have i1 : (0 : Int) ≤ (m : Int) := by omega
      have i2 : (m : Int) < (n : Int) := by omega
      by_cases he : vE x.1 = 0
      · have HE := Lib.hid he
        rw [he] at hvw
        clear hr hO hx he
        go_wp2_with (first
          | (with_reducible refine load_kg Tryz.underlying43 rfl (Pf.infoF HF.out) _ rfl (rng_below HR.out HK.out.mf.bel) rfl rfl ?_)
          | ((with_reducible refine alloc_k HK.out f_zeroP rfl rfl ?_); intro b4 u hk; clear HK; have HK := Lib.hid hk; clear hk)
          | ((with_reducible refine store_kr HK.out 0 (Pf.infoF HF.out) (Fd.one _) rfl rfl _ _ rfl rfl rfl rfl (Fd.leP zP_full HF.out) (Fd.setAllP zP_full HF.out) ?_); intro u hk; simp only [List.set_cons_zero] at hk; clear HK; have HK := Lib.hid hk; clear hk)
          | (with_reducible refine load_kr HK.out 0 Tryz.underlying43 rfl (Pf.infoF HF.out) _ rfl rfl rfl rfl Pf.all ?_)
          | (go_at_call 29; (with_reducible refine (hvw _).mono ?_); rintro e u ⟨rfl, hb⟩; have hk := HK.out.call hb; clear hb; clear HK; have HK := Lib.hid hk; clear hk)
          | (with_reducible refine load_k1 HK.out 0 ckI _ rfl rfl rfl rfl (Pf.c4 HF.out) ?_)
          | (with_reducible refine load_k1 HK.out 0 ckI _ rfl rfl rfl rfl (Pf.c5 HF.out) ?_)
          | (with_reducible refine build_sp rfl _ _ _ rfl rfl rfl rfl ?_)
          | ((with_reducible refine buildSp_k HK.out rfl _ rfl rfl ?_); intro bi u hk; clear HK; have HK := Lib.hid hk; clear hk)
          | ((refine push_k HK.out 2 0 sp_info3 rfl (by decide) (by decide) Tryz.underlying103 rfl rfl Sp.len Sp.ones rfl _ _ rfl rfl rfl HM8.out ?_); intro v u hk; simp only [List.set_cons_zero, List.set_cons_succ] at hk; clear HK; have HK := Lib.hid hk; clear hk))
        have hk := HK.out.tail.tail
        rw [spcs_take HX.out] at hk
        clear HK; have HK := Lib.hid hk; clear hk
        go_roundw
        case rel => exact ⟨m + 1, by have := HM.out; omega, by go_num, fun j q hj hq => by
          rcases Nat.lt_or_ge j m with h3 | h3
          · exact HQ.out j q h3 hq
          · obtain rfl : m = j := by omega
            rw [HX.out] at hq
            injection hq with hq
            rw [← hq]; exact HE.out, HK.out⟩
        case measure => have := HM.out; simp [intOf]; omega
      · have HE := Lib.hid (err_hit HQ.out HX.out he)
        have HN := Lib.hid he
        have d0 : (vE x.1 != 0) = true := by simpa using he
        clear hr hO hx he
        go_wp2_with (first
          | (with_reducible refine load_kg Tryz.underlying43 rfl (Pf.infoF HF.out) _ rfl (rng_below HR.out HK.out.mf.bel) rfl rfl ?_)
          | ((with_reducible refine alloc_k HK.out f_zeroP rfl rfl ?_); intro b4 u hk; clear HK; have HK := Lib.hid hk; clear hk)
          | ((with_reducible refine store_kr HK.out 0 (Pf.infoF HF.out) (Fd.one _) rfl rfl _ _ rfl rfl rfl rfl (Fd.leP zP_full HF.out) (Fd.setAllP zP_full HF.out) ?_); intro u hk; simp only [List.set_cons_zero] at hk; clear HK; have HK := Lib.hid hk; clear hk)
          | (with_reducible refine load_kr HK.out 0 Tryz.underlying43 rfl (Pf.infoF HF.out) _ rfl rfl rfl rfl Pf.all ?_)
          | (go_at_call 29; (with_reducible refine (hvw _).mono ?_); rintro e u ⟨rfl, hb⟩; have hk := HK.out.call hb; clear hb; clear HK; have HK := Lib.hid hk; clear hk)
          | (with_reducible refine load_k1 HK.out 0 ckI _ rfl rfl rfl rfl (Pf.c4 HF.out) ?_)
          | (with_reducible refine load_k1 HK.out 0 ckI _ rfl rfl rfl rfl (Pf.c5 HF.out) ?_)
          | (with_reducible refine build_sp rfl _ _ _ rfl rfl rfl rfl ?_)
          | ((with_reducible refine buildSp_k HK.out rfl _ rfl rfl ?_); intro bi u hk; clear HK; have HK := Lib.hid hk; clear hk)
          | ((refine push_k HK.out 2 0 sp_info3 rfl (by decide) (by decide) Tryz.underlying103 rfl rfl Sp.len Sp.ones rfl _ _ rfl rfl rfl HM8.out ?_); intro v u hk; simp only [List.set_cons_zero, List.set_cons_succ] at hk; clear HK; have HK := Lib.hid hk; clear hk))
        go_ret2
        exact ⟨_, by rw [HE.out]; rfl, HK.out.mf.bel, fun h => by rw [HE.out] at h; exact absurd h HN.out⟩
    · obtain rfl : m = n := by omega
      have HE := Lib.hid (err_none (ps := pfs qs) fun j q hj => HQ.out j q (by rw [HPL.out] at hj; exact hj))
      have hk := HK.out
      rw [show (pfs qs).take m = pfs qs by rw [← HPL.out]; exact List.take_length] at hk
      clear HK; have HK := Lib.hid hk; clear hk
      obtain ⟨Av, cv, ev⟩ := og_len (HK.out.ogAt 0 rfl)
      subst ev
      go_wp2
      go_ret2
      refine ⟨_, by rw [HE.out]; rfl, HK.out.mf.bel, fun _ => ⟨Av, cv, rfl, ?_⟩⟩
      exact row_base (HK.out.ogAt 0 rfl) fun k hk => (HK.out.cov _ List.mem_cons_self k hk).resolve_left id
/-- The greatest epoch. -/
def epP (ps : List Pf) : Int := ps.foldl (fun a p => max a p.e) 0
theorem ep_take {ps : List Pf} {m : Nat} {p : Pf} (h : ps[m]? = some p) : epP (ps.take (m + 1)) = max (epP (ps.take m)) p.e := by
  unfold epP
  rw [List.take_add_one, h, Option.toList_some, List.foldl_append]; rfl
set_option maxHeartbeats 2000000 in
theorem next_any (A : Option Addr) (n c : Nat) (qs : List Q) (hn : n ≤ 1000) (w : World) (hd : FR w A n qs) :
    Calls Tryz.prog 84 #[.slice A n c] w fun e u => e = .returned (.tuple #[.int .i64 (addN (epP (pfs qs)) 1), .int .i64 (addE (epP (pfs qs)) 1)]) ∧ Below w.heap.size w u := by
  have HD := Lib.hid hd
  have HPL := Lib.hid (show (pfs qs).length = n by rw [pfs_len]; exact hd.1)
  clear hd
  have HK := Lib.hid (Kg.start w)
  go_enter Tryz.func84, Tryz.ntmps84
  go_wp2
  go_loopw [4, 9] (fun v i wr => ∃ (m : Nat) (z : Int), m ≤ n ∧ i = .int .i64 m ∧ v = .int .i64 z ∧ epP ((pfs qs).take m) = z ∧ Kg w (fun _ => False) [] [] wr) (fun _ i _ => n - (intOf i).toNat)
  case atStart => exact ⟨0, 0, by omega, rfl, rfl, rfl, HK.out⟩
  case round =>
    obtain ⟨m, z, hm, rfl, rfl, hz, hk⟩ := hrel
    have HZ := Lib.hid hz; clear hz
    clear HK; have HK := Lib.hid hk; clear hk
    by_cases hlt : m < n
    · obtain ⟨x, hx⟩ := HD.out.get hlt
      obtain ⟨b, off, rfl, hr⟩ := HD.out.base (by omega)
      have HM := Lib.hid hlt
      have HX := Lib.hid (pfs_at hx)
      have HF := Lib.hid (HD.out.full hx)
      have HR := Lib.hid (hr m x hx)
      have i1 : (0 : Int) ≤ (m : Int) := by omega
      have i2 : (m : Int) < (n : Int) := by omega
      clear hr hx
      go_wp2_with (first
        | (with_reducible refine load_kg Tryz.underlying43 rfl (Pf.infoF HF.out) _ rfl (rng_below HR.out HK.out.mf.bel) rfl rfl ?_)
        | ((with_reducible refine alloc_k HK.out f_zeroP rfl rfl ?_); intro b4 u hk; clear HK; have HK := Lib.hid hk; clear hk)
        | ((with_reducible refine store_kr HK.out 0 (Pf.infoF HF.out) (Fd.one _) rfl rfl _ _ rfl rfl rfl rfl (Fd.leP zP_full HF.out) (Fd.setAllP zP_full HF.out) ?_); intro u hk; simp only [List.set_cons_zero] at hk; clear HK; have HK := Lib.hid hk; clear hk)
        | (with_reducible refine load_k1 HK.out 0 ckI _ rfl rfl rfl rfl Pf.ce ?_))
      go_roundw
      case rel => exact ⟨m + 1, max z x.1.e, by have := HM.out; omega, by go_num, (by simp [Int.max_def] <;> (split <;> split <;> omega)), (by rw [ep_take HX.out, HZ.out]), HK.out.tail⟩
      case measure => have := HM.out; simp [intOf]; omega
    · obtain rfl : m = n := by omega
      have HE := Lib.hid (show epP (pfs qs) = z by rw [← HZ.out, ← HPL.out, List.take_length])
      obtain ⟨N1, hN1⟩ : ∃ N, addN z 1 = N := ⟨_, rfl⟩
      obtain ⟨E1, hE1⟩ : ∃ E, addE z 1 = E := ⟨_, rfl⟩
      have hadd := fun w => add_any z 1 w
      rw [hN1, hE1] at hadd
      have HN1 := Lib.hid hN1; have HE1 := Lib.hid hE1
      clear hN1 hE1
      go_wp2_with (first
        | (go_at_call 64; (with_reducible refine (hadd _).mono ?_); rintro e u ⟨rfl, rfl⟩))
      go_ret2
      exact ⟨by rw [HE.out, HN1.out, HE1.out]; rfl, HK.out.mf.bel⟩

/-- A field that would be made. -/
structure Dr where
  nm : ByteArray
  k : Int
  v : Int
  lo : Int
  hi : Int
def Dr.cells (d : Dr) : List Value := [.string d.nm, .int .i64 d.k, .int .i64 d.v, .int .i64 d.lo, .int .i64 d.hi]
theorem Dr.c0 {d : Dr} : d.cells[0]? = some (.string d.nm) := rfl
theorem Dr.c1 {d : Dr} : d.cells[1]? = some (.int .i64 d.k) := rfl
theorem Dr.c2 {d : Dr} : d.cells[2]? = some (.int .i64 d.v) := rfl
theorem Dr.c3 {d : Dr} : d.cells[3]? = some (.int .i64 d.lo) := rfl
theorem Dr.c4 {d : Dr} : d.cells[4]? = some (.int .i64 d.hi) := rfl
theorem Dr.len {d : Dr} : d.cells.length = 5 := rfl
theorem Dr.all {d : Dr} : ∀ j v, d.cells[j]? = some v → d.cells[0 + j]? = some v := fun j v h => by rw [Nat.zero_add]; exact h
def zD : Dr := ⟨ByteArray.empty, 0, 0, 0, 0⟩
theorem dr_info {d : Dr} : (Tryz.prog.info? 114).map (·.size) = some d.cells.length := by rw [Dr.len]; kernel_rfl
theorem dr_info3 : (Tryz.prog.info? 114).map (fun i => (i.zero, i.size, i.bytes)) = some (some (.agg zD.cells.toArray), 5, 48) := by kernel_rfl
theorem dr_zero : (Tryz.prog.info? 114).bind (·.zero) = some (.agg zD.cells.toArray) := by kernel_rfl
theorem Dr.ones {d : Dr} : ∀ y ∈ d.cells, y.oneCell' = true := fun y hy => by
  simp only [Dr.cells, List.mem_cons, List.not_mem_nil, or_false] at hy
  rcases hy with rfl | rfl | rfl | rfl | rfl <;> rfl
theorem Dr.one {d : Dr} : d.cells.toArray.all (·.oneCell') = true := all_oneCell_toArray Dr.ones
theorem Dr.put {d e : Dr} : spl d.cells 0 e.cells = e.cells := rfl
theorem Dr.le {d e : Dr} : 0 + e.cells.length ≤ d.cells.length := Nat.le_refl 5
theorem dr_build (s : ByteArray) (k x y z : Int) (W : World) : (Instr.build 114 #[(0, .string s), (1, .int .i64 k), (2, .agg (Sp.cells ⟨x, y, z⟩).toArray)]).run Tryz.prog W = .ok (.agg (Dr.cells ⟨s, k, x, y, z⟩).toArray) W := by kernel_rfl
def dcs (l : List Dr) : List Value := l.flatMap Dr.cells
theorem dcs_get : ∀ {l : List Dr} {i : Nat} {s : Dr} (_ : l[i]? = some s) (j : Nat) (v : Value), s.cells[j]? = some v → (dcs l)[i * 5 + j]? = some v
  | [], _, _, h, _, _, _ => by simp at h
  | x :: l, 0, s, h, j, v, hv => by
    have e : x = s := by simpa using h
    subst e
    rw [Nat.zero_mul, Nat.zero_add, show dcs (x :: l) = x.cells ++ dcs l from rfl, List.getElem?_append_left (List.getElem?_eq_some_iff.1 hv).1]
    exact hv
  | x :: l, i + 1, s, h, j, v, hv => by
    rw [show dcs (x :: l) = x.cells ++ dcs l from rfl, List.getElem?_append_right (by rw [Dr.len]; omega), Dr.len, show (i + 1) * 5 + j - 5 = i * 5 + j by omega]
    exact dcs_get (by simpa using h) j v hv
section
variable {ops : Array Oper} {rest : List Oper} {o : Oper} {a : Act} {w u : World} {F : Nat → Prop} {own ro : List Th} {Q' : Exit → Act → World → Prop} {K : Act → World → Prop}
theorem build_dr (hgd : o.guard = none) (x0 x1 x2 : Operand) (ho : o.op = .build 114 #[(0, x0), (1, x1), (2, x2)]) {s : ByteArray} {k x y z : Int} (h0 : a.eval x0 = .string s) (h1 : a.eval x1 = .int .i64 k) (h2 : a.eval x2 = .agg (Sp.cells ⟨x, y, z⟩).toArray)
    (h : wpList Tryz.prog ops Q' rest (a.put o.dst (.agg (Dr.cells ⟨s, k, x, y, z⟩).toArray)) u) : wpList Tryz.prog ops Q' (o :: rest) a u :=
  wpList_plain hgd fun K hK => by
    unfold Oper.wp execOp
    simp only [ho, List.map_toArray, List.map_cons, List.map_nil, h0, h1, h2, Sem.run_bind, Sem.run_pure, Result.andThen_ok, dr_build]
    exact hK _ _ h
theorem run_build_dr (s : Dr) (u : World) : (Instr.buildSlice 106 1 #[(0, .agg s.cells.toArray)]).run Tryz.prog u = .ok (.slice (some ⟨u.heap.size, 0, none⟩) 1 1) (u.alloc (.cells s.cells.toArray 114)) := by
  obtain ⟨i0, hi0, hz0, hz1, hz2⟩ := info_parts dr_info3
  simp [Instr.buildSlice, run_underlying Tryz.underlying106, sizeOf, typeInfo, zeroValue, hi0, hz0, hz1, Instr.fill, Value.cells, newRow, newObj, Dr.cells, zD, set_five]
  rfl
theorem wp_buildDr (hk : Kg w F own ro u) (x : Operand) (ho : o.op = .buildSlice 106 1 #[(0, x)]) {s : Dr} (hx : a.eval x = .agg s.cells.toArray)
    (h : ∀ b u', Kg w F (Th.cel b 114 s.cells :: own) ro u' → K (a.put o.dst (.slice (some ⟨b, 0, none⟩) 1 1)) u') : o.wp Tryz.prog a u K Q' := by
  unfold Oper.wp execOp
  simp only [ho, List.map_toArray, List.map_cons, List.map_nil, hx, Sem.run_bind, Sem.run_pure, Result.andThen_ok, run_build_dr]
  exact h _ _ (hk.new rfl)
theorem buildDr_k (hk : Kg w F own ro u) (hgd : o.guard = none) (x : Operand) (ho : o.op = .buildSlice 106 1 #[(0, x)]) {s : Dr} (hx : a.eval x = .agg s.cells.toArray)
    (h : ∀ b u', Kg w F (Th.cel b 114 s.cells :: own) ro u' → wpList Tryz.prog ops Q' rest (a.put o.dst (.slice (some ⟨b, 0, none⟩) 1 1)) u') : wpList Tryz.prog ops Q' (o :: rest) a u :=
  wpList_plain hgd fun _ hK => wp_buildDr hk x ho hx fun b u' h' => hK _ _ (h b u' h')
end
/-- A row of drafts that a call made. -/
structure OD (w : World) (v : Value) (l : List Dr) (u : World) : Prop where
  bel : Below w.heap.size w u
  own : u.ownsRow w.heap.size 114 5 v l.length (dcs l)
theorem cel_own {u : World} {b s n : Nat} {t : TypeId} {cs : List Value} (h : Cel u b t cs) (hl : cs.length = n * s) (hn : n ≤ 1000) (base : Nat) (hb : base ≤ b) : u.ownsRow base t s (.slice (some ⟨b, 0, none⟩) n n) n cs :=
  ⟨hl, .inr ⟨b, n, cs.toArray, rfl, hb, h, Nat.le_refl _, by simp only [maxLen]; omega, by simpa using hl, by rw [← hl]; simp⟩⟩
theorem OD.one {w u : World} {b : Nat} {d : Dr} (hb : Below w.heap.size w u) (hn : w.heap.size ≤ b) (h : Cel u b 114 d.cells) : OD w (.slice (some ⟨b, 0, none⟩) 1 1) [d] u :=
  ⟨hb, by
    have := cel_own (n := 1) (s := 5) h rfl (by omega) w.heap.size hn
    rw [show dcs [d] = d.cells by simp [dcs]]
    exact this⟩
/-! ### The closures of makings. -/
theorem mg1_any (p : Pl) (x y z : Int) (qp : Nat) (w : World) (hp : w.rangeAt qp 0 p.cells) :
    Calls Tryz.prog 113 #[.int .i64 x, .int .i64 y, .int .i64 z, .pointer (some ⟨qp, 0, none⟩)] w fun e u => ∃ g, e = .returned (.slice (some ⟨g, 0, none⟩) 1 1) ∧ OD w (.slice (some ⟨g, 0, none⟩) 1 1) [⟨p.nm, 1, x, y, z⟩] u := by
  have HP := Lib.hid (show ∀ j v, p.cells[j]? = some v → w.cell? ⟨qp, j, none⟩ = some v from fun j v h => by have := hp j v h; rwa [Nat.zero_add] at this); clear hp
  have HK := Lib.hid (Kg.start w)
  go_enter Tryz.func113, Tryz.ntmps113
  go_wp2_with (first
    | (with_reducible refine load_kt ckS _ rfl ((HK.out.mf.bel.cell (cell_lt (HP.out 1 _ Pl.c1))).trans (HP.out 1 _ Pl.c1)) rfl rfl ?_)
    | (with_reducible refine build_sp rfl _ _ _ rfl rfl rfl rfl ?_)
    | (with_reducible refine build_dr rfl _ _ _ rfl rfl rfl rfl ?_)
    | ((with_reducible refine buildDr_k HK.out rfl _ rfl rfl ?_); intro b u hk; clear HK; have HK := Lib.hid hk; clear hk))
  go_ret
  exact ⟨b, rfl, OD.one HK.out.mf.bel ((HK.out.cov _ List.mem_cons_self _ rfl).resolve_left id) (HK.out.celAt 0 rfl)⟩
theorem mg2_any (p : Pl) (s : Sp) (qp qs qf : Nat) (w : World) (hp : w.rangeAt qp 0 p.cells) (hs : w.rangeAt qs 0 s.cells) (hf : w.cell? ⟨qf, 0, none⟩ = some (.func (.func 113) #[] #[.pointer (some ⟨qp, 0, none⟩)])) (w0 : IntKind.i64.wrap (s.lo + p.a) = s.lo + p.a) (w1 : IntKind.i64.wrap (s.hi - p.b) = s.hi - p.b) :
    Calls Tryz.prog 114 #[.pointer (some ⟨qf, 0, none⟩), .pointer (some ⟨qs, 0, none⟩), .pointer (some ⟨qp, 0, none⟩)] w fun e u => ∃ v, e = .returned v ∧ OD w v [⟨p.nm, 1, s.v, s.lo + p.a, s.hi - p.b⟩] u := by
  have HP := Lib.hid (show ∀ j v, p.cells[j]? = some v → w.cell? ⟨qp, j, none⟩ = some v from fun j v h => by have := hp j v h; rwa [Nat.zero_add] at this)
  have HS1 := Lib.hid (show ∀ j v, s.cells[j]? = some v → w.cell? ⟨qs, j, none⟩ = some v from fun j v h => by have := hs j v h; rwa [Nat.zero_add] at this); clear hs
  have HQ := Lib.hid hf; clear hf
  have HK := Lib.hid (Kg.start w)
  have HPR := Lib.hid hp; clear hp
  go_enter Tryz.func114, Tryz.ntmps114
  go_wp2_with (first
    | (with_reducible refine load_kt ckM _ rfl ((HK.out.mf.bel.cell (cell_lt HQ.out)).trans HQ.out) rfl rfl ?_)
    | (with_reducible refine load_kt ckI _ rfl ((HK.out.mf.bel.cell (cell_lt (HS1.out 0 _ Sp.c0))).trans (HS1.out 0 _ Sp.c0)) rfl rfl ?_)
    | (with_reducible refine load_kt ckI _ rfl ((HK.out.mf.bel.cell (cell_lt (HS1.out 1 _ Sp.c1))).trans (HS1.out 1 _ Sp.c1)) rfl rfl ?_)
    | (with_reducible refine load_kt ckI _ rfl ((HK.out.mf.bel.cell (cell_lt (HS1.out 2 _ Sp.c2))).trans (HS1.out 2 _ Sp.c2)) rfl rfl ?_)
    | (with_reducible refine load_kt ckI _ rfl ((HK.out.mf.bel.cell (cell_lt (HP.out 3 _ Pl.c3))).trans (HP.out 3 _ Pl.c3)) rfl rfl ?_)
    | (with_reducible refine load_kt ckI _ rfl ((HK.out.mf.bel.cell (cell_lt (HP.out 4 _ Pl.c4))).trans (HP.out 4 _ Pl.c4)) rfl rfl ?_)
    | (with_reducible refine load_kt ckS _ rfl ((HK.out.mf.bel.cell (cell_lt (HP.out 1 _ Pl.c1))).trans (HP.out 1 _ Pl.c1)) rfl rfl ?_)
    | (with_reducible refine load_kt ckS _ rfl ((HK.out.mf.bel.cell (cell_lt (HP.out 2 _ Pl.c2))).trans (HP.out 2 _ Pl.c2)) rfl rfl ?_)
    | (go_at_call 113; (with_reducible refine (mg1_any p _ _ _ qp _ (rng_below HPR.out HK.out.mf.bel)).mono ?_); rintro e u ⟨g, rfl, ho⟩; have HO := Lib.hid ho; clear ho))
  go_ret
  exact ⟨_, rfl, HO.out⟩
theorem mg3_any (p : Pl) (s : Sp) (qp qs qf : Nat) (w : World) (hp : w.rangeAt qp 0 p.cells) (hs : w.rangeAt qs 0 s.cells) (hf : w.cell? ⟨qf, 0, none⟩ = some (.func (.func 113) #[] #[.pointer (some ⟨qp, 0, none⟩)])) (w0 : IntKind.i64.wrap (s.lo - p.a) = s.lo - p.a) (w1 : IntKind.i64.wrap (s.hi + p.b) = s.hi + p.b) :
    Calls Tryz.prog 115 #[.pointer (some ⟨qf, 0, none⟩), .pointer (some ⟨qs, 0, none⟩), .pointer (some ⟨qp, 0, none⟩)] w fun e u => ∃ v, e = .returned v ∧ OD w v [⟨p.nm, 1, s.v, s.lo - p.a, s.hi + p.b⟩] u := by
  have HP := Lib.hid (show ∀ j v, p.cells[j]? = some v → w.cell? ⟨qp, j, none⟩ = some v from fun j v h => by have := hp j v h; rwa [Nat.zero_add] at this)
  have HS1 := Lib.hid (show ∀ j v, s.cells[j]? = some v → w.cell? ⟨qs, j, none⟩ = some v from fun j v h => by have := hs j v h; rwa [Nat.zero_add] at this); clear hs
  have HQ := Lib.hid hf; clear hf
  have HK := Lib.hid (Kg.start w)
  have HPR := Lib.hid hp; clear hp
  go_enter Tryz.func115, Tryz.ntmps115
  go_wp2_with (first
    | (with_reducible refine load_kt ckM _ rfl ((HK.out.mf.bel.cell (cell_lt HQ.out)).trans HQ.out) rfl rfl ?_)
    | (with_reducible refine load_kt ckI _ rfl ((HK.out.mf.bel.cell (cell_lt (HS1.out 0 _ Sp.c0))).trans (HS1.out 0 _ Sp.c0)) rfl rfl ?_)
    | (with_reducible refine load_kt ckI _ rfl ((HK.out.mf.bel.cell (cell_lt (HS1.out 1 _ Sp.c1))).trans (HS1.out 1 _ Sp.c1)) rfl rfl ?_)
    | (with_reducible refine load_kt ckI _ rfl ((HK.out.mf.bel.cell (cell_lt (HS1.out 2 _ Sp.c2))).trans (HS1.out 2 _ Sp.c2)) rfl rfl ?_)
    | (with_reducible refine load_kt ckI _ rfl ((HK.out.mf.bel.cell (cell_lt (HP.out 3 _ Pl.c3))).trans (HP.out 3 _ Pl.c3)) rfl rfl ?_)
    | (with_reducible refine load_kt ckI _ rfl ((HK.out.mf.bel.cell (cell_lt (HP.out 4 _ Pl.c4))).trans (HP.out 4 _ Pl.c4)) rfl rfl ?_)
    | (with_reducible refine load_kt ckS _ rfl ((HK.out.mf.bel.cell (cell_lt (HP.out 1 _ Pl.c1))).trans (HP.out 1 _ Pl.c1)) rfl rfl ?_)
    | (with_reducible refine load_kt ckS _ rfl ((HK.out.mf.bel.cell (cell_lt (HP.out 2 _ Pl.c2))).trans (HP.out 2 _ Pl.c2)) rfl rfl ?_)
    | (go_at_call 113; (with_reducible refine (mg1_any p _ _ _ qp _ (rng_below HPR.out HK.out.mf.bel)).mono ?_); rintro e u ⟨g, rfl, ho⟩; have HO := Lib.hid ho; clear ho))
  go_ret
  exact ⟨_, rfl, HO.out⟩
theorem mg5_any (p : Pl) (s : Sp) (qp qs qf : Nat) (w : World) (hp : w.rangeAt qp 0 p.cells) (hs : w.rangeAt qs 0 s.cells) (hf : w.cell? ⟨qf, 0, none⟩ = some (.func (.func 113) #[] #[.pointer (some ⟨qp, 0, none⟩)])) :
    Calls Tryz.prog 117 #[.pointer (some ⟨qf, 0, none⟩), .pointer (some ⟨qs, 0, none⟩), .pointer (some ⟨qp, 0, none⟩)] w fun e u => ∃ v, e = .returned v ∧ OD w v [⟨p.nm, 1, s.v, p.a, p.b⟩] u := by
  have HP := Lib.hid (show ∀ j v, p.cells[j]? = some v → w.cell? ⟨qp, j, none⟩ = some v from fun j v h => by have := hp j v h; rwa [Nat.zero_add] at this)
  have HS1 := Lib.hid (show ∀ j v, s.cells[j]? = some v → w.cell? ⟨qs, j, none⟩ = some v from fun j v h => by have := hs j v h; rwa [Nat.zero_add] at this); clear hs
  have HQ := Lib.hid hf; clear hf
  have HK := Lib.hid (Kg.start w)
  have HPR := Lib.hid hp; clear hp
  go_enter Tryz.func117, Tryz.ntmps117
  go_wp2_with (first
    | (with_reducible refine load_kt ckM _ rfl ((HK.out.mf.bel.cell (cell_lt HQ.out)).trans HQ.out) rfl rfl ?_)
    | (with_reducible refine load_kt ckI _ rfl ((HK.out.mf.bel.cell (cell_lt (HS1.out 0 _ Sp.c0))).trans (HS1.out 0 _ Sp.c0)) rfl rfl ?_)
    | (with_reducible refine load_kt ckI _ rfl ((HK.out.mf.bel.cell (cell_lt (HS1.out 1 _ Sp.c1))).trans (HS1.out 1 _ Sp.c1)) rfl rfl ?_)
    | (with_reducible refine load_kt ckI _ rfl ((HK.out.mf.bel.cell (cell_lt (HS1.out 2 _ Sp.c2))).trans (HS1.out 2 _ Sp.c2)) rfl rfl ?_)
    | (with_reducible refine load_kt ckI _ rfl ((HK.out.mf.bel.cell (cell_lt (HP.out 3 _ Pl.c3))).trans (HP.out 3 _ Pl.c3)) rfl rfl ?_)
    | (with_reducible refine load_kt ckI _ rfl ((HK.out.mf.bel.cell (cell_lt (HP.out 4 _ Pl.c4))).trans (HP.out 4 _ Pl.c4)) rfl rfl ?_)
    | (with_reducible refine load_kt ckS _ rfl ((HK.out.mf.bel.cell (cell_lt (HP.out 1 _ Pl.c1))).trans (HP.out 1 _ Pl.c1)) rfl rfl ?_)
    | (with_reducible refine load_kt ckS _ rfl ((HK.out.mf.bel.cell (cell_lt (HP.out 2 _ Pl.c2))).trans (HP.out 2 _ Pl.c2)) rfl rfl ?_)
    | (go_at_call 113; (with_reducible refine (mg1_any p _ _ _ qp _ (rng_below HPR.out HK.out.mf.bel)).mono ?_); rintro e u ⟨g, rfl, ho⟩; have HO := Lib.hid ho; clear ho))
  go_ret
  exact ⟨_, rfl, HO.out⟩
theorem mg4_any (p : Pl) (s : Sp) (qp qs qf : Nat) (w : World) (hp : w.rangeAt qp 0 p.cells) (hs : w.rangeAt qs 0 s.cells) (hf : w.cell? ⟨qf, 0, none⟩ = some (.func (.func 113) #[] #[.pointer (some ⟨qp, 0, none⟩)])) :
    Calls Tryz.prog 116 #[.pointer (some ⟨qp, 0, none⟩), .pointer (some ⟨qs, 0, none⟩)] w fun e u => ∃ v, e = .returned v ∧ OD w v [⟨p.nm, 2, s.v, 0, 0⟩] u := by
  have HP := Lib.hid (show ∀ j v, p.cells[j]? = some v → w.cell? ⟨qp, j, none⟩ = some v from fun j v h => by have := hp j v h; rwa [Nat.zero_add] at this)
  have HS1 := Lib.hid (show ∀ j v, s.cells[j]? = some v → w.cell? ⟨qs, j, none⟩ = some v from fun j v h => by have := hs j v h; rwa [Nat.zero_add] at this); clear hs
  have HQ := Lib.hid hf; clear hf
  have HK := Lib.hid (Kg.start w)
  have HPR := Lib.hid hp; clear hp
  go_enter Tryz.func116, Tryz.ntmps116
  go_wp2_with (first
    | (with_reducible refine load_kt ckM _ rfl ((HK.out.mf.bel.cell (cell_lt HQ.out)).trans HQ.out) rfl rfl ?_)
    | (with_reducible refine load_kt ckI _ rfl ((HK.out.mf.bel.cell (cell_lt (HS1.out 0 _ Sp.c0))).trans (HS1.out 0 _ Sp.c0)) rfl rfl ?_)
    | (with_reducible refine load_kt ckI _ rfl ((HK.out.mf.bel.cell (cell_lt (HS1.out 1 _ Sp.c1))).trans (HS1.out 1 _ Sp.c1)) rfl rfl ?_)
    | (with_reducible refine load_kt ckI _ rfl ((HK.out.mf.bel.cell (cell_lt (HS1.out 2 _ Sp.c2))).trans (HS1.out 2 _ Sp.c2)) rfl rfl ?_)
    | (with_reducible refine load_kt ckI _ rfl ((HK.out.mf.bel.cell (cell_lt (HP.out 3 _ Pl.c3))).trans (HP.out 3 _ Pl.c3)) rfl rfl ?_)
    | (with_reducible refine load_kt ckI _ rfl ((HK.out.mf.bel.cell (cell_lt (HP.out 4 _ Pl.c4))).trans (HP.out 4 _ Pl.c4)) rfl rfl ?_)
    | (with_reducible refine load_kt ckS _ rfl ((HK.out.mf.bel.cell (cell_lt (HP.out 1 _ Pl.c1))).trans (HP.out 1 _ Pl.c1)) rfl rfl ?_)
    | (with_reducible refine load_kt ckS _ rfl ((HK.out.mf.bel.cell (cell_lt (HP.out 2 _ Pl.c2))).trans (HP.out 2 _ Pl.c2)) rfl rfl ?_)
    | (with_reducible refine build_sp1 rfl _ rfl rfl ?_)
    | (with_reducible refine build_dr rfl _ _ _ rfl rfl rfl rfl ?_)
    | ((with_reducible refine buildDr_k HK.out rfl _ rfl rfl ?_); intro b u hk; clear HK; have HK := Lib.hid hk; clear hk))
  go_ret
  exact ⟨_, rfl, OD.one HK.out.mf.bel ((HK.out.cov _ List.mem_cons_self _ rfl).resolve_left id) (HK.out.celAt 0 rfl)⟩

def Pf.setE (p : Pf) (e : Int) : Pf := ⟨p.nm, p.k, e, p.C, p.L, p.hs⟩
theorem Pf.toE {p : Pf} {A : Option Addr} {c : Nat} {e : Int} : (p.fd A c).cells.set 2 (.int .i64 e) = ((p.setE e).fd A c).cells := rfl
theorem Pf.fullE {p : Pf} (h : p.full) (e : Int) : (p.setE e).full := h
theorem Fd.lt2 {p : Pf} {A : Option Addr} {c : Nat} (hp : p.full) : 2 < (p.fd A c).cells.length := by rw [Pf.len hp]; decide
def bldP (d : Dr) (ep : Int) : Pf := (if d.k = 2 then lkP d.nm 0 d.v else ctP d.nm d.v d.lo d.hi).setE ep
theorem bldP_full (d : Dr) (ep : Int) : (bldP d ep).full := by
  unfold bldP
  split
  · exact Pf.fullE (lkP_full _ _ _) _
  · exact Pf.fullE (ctP_full _ _ _ _) _
theorem bldP_hs (d : Dr) (ep : Int) : (bldP d ep).hs = [] := by
  unfold bldP lkP ctP toldP Pf.setE
  split <;> split <;> rfl
set_option maxHeartbeats 2000000 in
theorem build_any (d : Dr) (hs : d.nm.size ≤ 1000) (ep : Int) (w : World) : Calls Tryz.prog 89 #[.agg d.cells.toArray, .int .i64 ep] w fun e w' => e = .returned (.agg ((bldP d ep).fd none 0).cells.toArray) ∧ Below w.heap.size w w' := by
  have HK := Lib.hid (Kg.start w)
  have hct := fcounter_any d.nm hs d.v d.lo d.hi
  have hlk := flock_any d.nm hs 0 d.v
  have HF := Lib.hid (ctP_full d.nm d.v d.lo d.hi)
  have HG := Lib.hid (lkP_full d.nm 0 d.v)
  clear hs
  cases h1 : (d.k == 2) with
  | true =>
    have HB := Lib.hid (show bldP d ep = (lkP d.nm 0 d.v).setE ep by rw [bldP, if_pos (by simpa using h1)])
    generalize ctP d.nm d.v d.lo d.hi = P at hct HF
    generalize ctPE d.nm d.v d.lo d.hi = E at hct
    generalize lkP d.nm 0 d.v = P2 at hlk HG HB
    generalize lkPE d.nm 0 d.v = E2 at hlk
    have T1 := True.intro; have T2 := True.intro; have T3 := True.intro; have T4 := True.intro; have T5 := True.intro; have T6 := True.intro
    go_enter Tryz.func89, Tryz.ntmps89
    go_wp2_with (first
      | ((with_reducible refine box_k (cs := d.cells) HK.out rfl _ rfl rfl ?_); intro b2 u hk; clear HK; have HK := Lib.hid hk; clear hk)
      | (clear T1; (with_reducible refine alloc_k HK.out f_zeroP rfl rfl ?_); intro b4 u hk; clear HK; have HK := Lib.hid hk; clear hk)
      | (clear T2; (with_reducible refine alloc_k HK.out f_zeroP rfl rfl ?_); intro b5 u hk; clear HK; have HK := Lib.hid hk; clear hk)
      | (with_reducible refine load_k1 HK.out 1 ckS _ rfl rfl rfl rfl Dr.c0 ?_)
      | (with_reducible refine load_k1 HK.out 1 ckI _ rfl rfl rfl rfl Dr.c2 ?_)
      | (with_reducible refine load_k1 HK.out 1 ckI _ rfl rfl rfl rfl Dr.c3 ?_)
      | (with_reducible refine load_k1 HK.out 1 ckI _ rfl rfl rfl rfl Dr.c4 ?_)
      | (with_reducible refine load_k1 HK.out 2 ckS _ rfl rfl rfl rfl Dr.c0 ?_)
      | (with_reducible refine load_k1 HK.out 2 ckI _ rfl rfl rfl rfl Dr.c1 ?_)
      | (with_reducible refine load_k1 HK.out 2 ckI _ rfl rfl rfl rfl Dr.c2 ?_)
      | (go_at_call 28; (with_reducible refine (hct _).mono ?_); rintro e u ⟨rfl, hb⟩; have hk := HK.out.call hb; clear hb; clear HK; have HK := Lib.hid hk; clear hk)
      | (go_at_call 121; (with_reducible refine (hlk _).mono ?_); rintro e u ⟨rfl, hb⟩; have hk := HK.out.call hb; clear hb; clear HK; have HK := Lib.hid hk; clear hk)
      | (clear T3; (refine store_kr HK.out 0 (Pf.infoF HF.out) (Fd.one _) rfl rfl _ _ rfl rfl rfl rfl (Fd.leP zP_full HF.out) (Fd.setAllP zP_full HF.out) ?_); intro u hk; simp only [List.set_cons_zero] at hk; clear HK; have HK := Lib.hid hk; clear hk)
      | (clear T4; (refine store_kr HK.out 0 (Pf.infoF HG.out) (Fd.one _) rfl rfl _ _ rfl rfl rfl rfl (Fd.leP HF.out HG.out) (Fd.setAllP HF.out HG.out) ?_); intro u hk; simp only [List.set_cons_zero] at hk; clear HK; have HK := Lib.hid hk; clear hk)
      | (clear T5; (refine store_k1 HK.out 0 ckI rfl rfl _ _ rfl rfl rfl rfl rfl (Fd.lt2 HG.out) Pf.toE ?_); intro u hk; simp only [List.set_cons_zero] at hk; clear HK; have HK := Lib.hid hk; clear hk)
      | (with_reducible refine load_kr HK.out 0 Tryz.underlying43 rfl (Pf.infoF (Pf.fullE HG.out ep)) _ rfl rfl rfl rfl Pf.all ?_)
      | (clear T6; (refine store_kr HK.out 1 (Pf.infoF (Pf.fullE HG.out ep)) (Fd.one _) rfl rfl _ _ rfl rfl rfl rfl (Fd.leP zP_full (Pf.fullE HG.out ep)) (Fd.setAllP zP_full (Pf.fullE HG.out ep)) ?_); intro u hk; simp only [List.set_cons_zero, List.set_cons_succ] at hk; clear HK; have HK := Lib.hid hk; clear hk))
    refine bodyPost_ret (results_k1 rfl Tryz.underlying43 rfl (Pf.infoF (Pf.fullE HG.out ep)) _ HK.out 1 rfl rfl) rfl ?_
    exact ⟨by rw [HB.out], HK.out.mf.bel⟩
  | false =>
    have HB := Lib.hid (show bldP d ep = (ctP d.nm d.v d.lo d.hi).setE ep by rw [bldP, if_neg (by simpa using h1)])
    generalize ctP d.nm d.v d.lo d.hi = P at hct HF HB
    generalize ctPE d.nm d.v d.lo d.hi = E at hct
    have T1 := True.intro; have T2 := True.intro; have T3 := True.intro; have T4 := True.intro; have T5 := True.intro; have T6 := True.intro
    go_enter Tryz.func89, Tryz.ntmps89
    go_wp2_with (first
      | ((with_reducible refine box_k (cs := d.cells) HK.out rfl _ rfl rfl ?_); intro b2 u hk; clear HK; have HK := Lib.hid hk; clear hk)
      | (clear T1; (with_reducible refine alloc_k HK.out f_zeroP rfl rfl ?_); intro b4 u hk; clear HK; have HK := Lib.hid hk; clear hk)
      | (clear T2; (with_reducible refine alloc_k HK.out f_zeroP rfl rfl ?_); intro b5 u hk; clear HK; have HK := Lib.hid hk; clear hk)
      | (with_reducible refine load_k1 HK.out 1 ckS _ rfl rfl rfl rfl Dr.c0 ?_)
      | (with_reducible refine load_k1 HK.out 1 ckI _ rfl rfl rfl rfl Dr.c2 ?_)
      | (with_reducible refine load_k1 HK.out 1 ckI _ rfl rfl rfl rfl Dr.c3 ?_)
      | (with_reducible refine load_k1 HK.out 1 ckI _ rfl rfl rfl rfl Dr.c4 ?_)
      | (with_reducible refine load_k1 HK.out 2 ckS _ rfl rfl rfl rfl Dr.c0 ?_)
      | (with_reducible refine load_k1 HK.out 2 ckI _ rfl rfl rfl rfl Dr.c1 ?_)
      | (with_reducible refine load_k1 HK.out 2 ckI _ rfl rfl rfl rfl Dr.c2 ?_)
      | (go_at_call 28; (with_reducible refine (hct _).mono ?_); rintro e u ⟨rfl, hb⟩; have hk := HK.out.call hb; clear hb; clear HK; have HK := Lib.hid hk; clear hk)
      | (go_at_call 121; (with_reducible refine (hlk _).mono ?_); rintro e u ⟨rfl, hb⟩; have hk := HK.out.call hb; clear hb; clear HK; have HK := Lib.hid hk; clear hk)
      | (clear T3; (refine store_kr HK.out 0 (Pf.infoF HF.out) (Fd.one _) rfl rfl _ _ rfl rfl rfl rfl (Fd.leP zP_full HF.out) (Fd.setAllP zP_full HF.out) ?_); intro u hk; simp only [List.set_cons_zero] at hk; clear HK; have HK := Lib.hid hk; clear hk)
      | (clear T5; (refine store_k1 HK.out 0 ckI rfl rfl _ _ rfl rfl rfl rfl rfl (Fd.lt2 HF.out) Pf.toE ?_); intro u hk; simp only [List.set_cons_zero] at hk; clear HK; have HK := Lib.hid hk; clear hk)
      | (with_reducible refine load_kr HK.out 0 Tryz.underlying43 rfl (Pf.infoF (Pf.fullE HF.out ep)) _ rfl rfl rfl rfl Pf.all ?_)
      | (clear T6; (refine store_kr HK.out 1 (Pf.infoF (Pf.fullE HF.out ep)) (Fd.one _) rfl rfl _ _ rfl rfl rfl rfl (Fd.leP zP_full (Pf.fullE HF.out ep)) (Fd.setAllP zP_full (Pf.fullE HF.out ep)) ?_); intro u hk; simp only [List.set_cons_zero, List.set_cons_succ] at hk; clear HK; have HK := Lib.hid hk; clear hk))
    refine bodyPost_ret (results_k1 rfl Tryz.underlying43 rfl (Pf.infoF (Pf.fullE HF.out ep)) _ HK.out 1 rfl rfl) rfl ?_
    exact ⟨by rw [HB.out], HK.out.mf.bel⟩

end Go.Proofs.YtgblnlpfgdbnnaaGreat
