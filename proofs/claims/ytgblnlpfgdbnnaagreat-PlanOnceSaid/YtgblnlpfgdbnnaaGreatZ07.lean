/- Holds in memory: what the operations on them do; when two are the same; slices of holds that come in, and rows of holds that a call makes.; Contracts of the document's Sum, of hold.greatest, of slices.Clone at holds, and of the statements' Same.; What the walks of fields stand on: results, yields, holds appended; contracts of headOf and apart.; Contracts of field.Same and the document's Same of fields that are the same. -/
import Derived.Test.YtgblnlpfgdbnnaaGreatZ18
namespace Go.Proofs.YtgblnlpfgdbnnaaGreat
set_option maxRecDepth 100000
open Go.ChangeShapes Go.WideShapes Go.ChangeAt Go.RowKit

/-! ### Equality. -/
theorem same_ho (a b : Ho) : ((a.r == b.r) && ((a.n == b.n) && ((a.a == b.a) && ((a.d == b.d) && ((a.s == b.s) && true))))) = (a.l == b.l) := by
  rw [Bool.eq_iff_iff]
  simp only [Bool.and_eq_true, beq_iff_eq, and_true, Ho.l, List.cons.injEq]
theorem eql_ho_any (d : Nat) (a b : Ho) (w : World) : (Op.equalIn (d + 2) 81 (.agg (vals a.l).toArray) (.agg (vals b.l).toArray)).run Tryz.prog w = .ok (a.l == b.l) w := by
  have hst := run_equalIn_struct (P := Tryz.prog) w (d + 1) 81 (vals a.l).toArray (vals b.l).toArray h_under (by kernel_rfl)
  have hi : ∀ x y : Int, (Op.equalIn (d + 1) 3 (.int .i64 x) (.int .i64 y)).run Tryz.prog w = .ok (x == y) w := fun x y => run_equalIn_int w d 3 .i64 .i64 x y Tryz.underlying3
  obtain ⟨f1, f2, f3, f4, f5, hf, e1, e2, e3, e4, e5⟩ := fields5n h_fields
  injection e1 with e1a e1; injection e1 with e1b e1c
  injection e2 with e2a e2; injection e2 with e2b e2c
  injection e3 with e3a e3; injection e3 with e3b e3c
  injection e4 with e4a e4; injection e4 with e4b e4c
  injection e5 with e5a e5; injection e5 with e5b e5c
  have p0 : ∀ c : Ho, (part 3 (vals c.l).toArray 0).run Tryz.prog w = .ok (.int .i64 c.r) w := fun c => part_int c.l (by simp [Ho.len]) w
  have p1 : ∀ c : Ho, (part 3 (vals c.l).toArray 1).run Tryz.prog w = .ok (.int .i64 c.n) w := fun c => part_int c.l (by simp [Ho.len]) w
  have p2 : ∀ c : Ho, (part 3 (vals c.l).toArray 2).run Tryz.prog w = .ok (.int .i64 c.a) w := fun c => part_int c.l (by simp [Ho.len]) w
  have p3 : ∀ c : Ho, (part 3 (vals c.l).toArray 3).run Tryz.prog w = .ok (.int .i64 c.d) w := fun c => part_int c.l (by simp [Ho.len]) w
  have p4 : ∀ c : Ho, (part 3 (vals c.l).toArray 4).run Tryz.prog w = .ok (.int .i64 c.s) w := fun c => part_int c.l (by simp [Ho.len]) w
  rw [hst, hf, ← same_ho a b]
  clear hst hf
  refine eqField (by rw [e1c]; decide) (by rw [e1a, e1b]; exact p0 a) (by rw [e1a, e1b]; exact p0 b) (by rw [e1a]; exact hi _ _) ?_
  refine eqField (by rw [e2c]; decide) (by rw [e2a, e2b]; exact p1 a) (by rw [e2a, e2b]; exact p1 b) (by rw [e2a]; exact hi _ _) ?_
  refine eqField (by rw [e3c]; decide) (by rw [e3a, e3b]; exact p2 a) (by rw [e3a, e3b]; exact p2 b) (by rw [e3a]; exact hi _ _) ?_
  refine eqField (by rw [e4c]; decide) (by rw [e4a, e4b]; exact p3 a) (by rw [e4a, e4b]; exact p3 b) (by rw [e4a]; exact hi _ _) ?_
  refine eqField (by rw [e5c]; decide) (by rw [e5a, e5b]; exact p4 a) (by rw [e5a, e5b]; exact p4 b) (by rw [e5a]; exact hi _ _) ?_
  simp [Op.eqFields]
theorem eql_ho (a b : Ho) (w : World) : (Op.equalIn 10000 81 (.agg (vals a.l).toArray) (.agg (vals b.l).toArray)).run Tryz.prog w = .ok (a.l == b.l) w := eql_ho_any 9998 a b w
theorem h_guard : Tryz.prog.eqGuardType Tryz.prog.depth 81 = false := by kernel_rfl

/-! ### Slices of holds. -/
/-! ### Rows that a call makes. -/

theorem yield_neqh {ops : Array Oper} {S : World → Prop} {o : Oper} {a : Act} {p q : Ho} {b : Bool} (hb : (p.l == q.l) = b) (x y : Operand) (t : TypeId) (ho : o.op = .binOp .neq 81 x y t) (hx : a.eval x = .agg (vals p.l).toArray) (hy : a.eval y = .agg (vals q.l).toArray) (hw : Region.wanted o (yielded ops a.tmps) = true) :
    YieldsIf Tryz.prog ops S o (.bool !b) a :=
  .inl ⟨hw, fun w _ => by
    have hq := eql_ho p q
    rw [hb] at hq
    have hge := h_guard
    unfold execOp
    simp only [ho, hx, hy]
    simp [go_sem, hq, hge]⟩

section
variable {ops : Array Oper} {rest : List Oper} {o : Oper} {a : Act} {w u : World} {l : List (Nat × TypeId × List Value)} {rows : List (Option Addr × Nat × List Ho)} {Q : Exit → Act → World → Prop} {K : Act → World → Prop} {S : World → Prop}
/-- A cell yields the same wherever it is kept. -/
theorem yield_c {ty : TypeId} (ht : cellB ty = true) {ad : Addr} {v : Value} (hS : ∀ u, S u → u.cell? ad = some v) (x : Operand) (ho : o.op = .load ty x) (hx : a.eval x = .pointer (some ad)) (hw : Region.wanted o (yielded ops a.tmps) = true) : YieldsIf Tryz.prog ops S o v a :=
  .inl ⟨hw, fun u' hu => by
    unfold execOp
    simp only [ho, hx, Sem.run_bind, Sem.run_pure, Result.andThen_ok, run_load_f1 ht (hS u' hu)]⟩
end

/-! ### headOf. -/
/-! ### apart. -/

theorem c_same (C : List Int) (hC : C.length = 579) (w : World) : (Op.equalIn 10000 38 (.agg (vals C).toArray) (.agg (vals C).toArray)).run Tryz.prog w = .ok true w := by rw [eql_c C C hC hC w]; simp
theorem l_same (M : Lk) (w : World) : (Op.equalIn 10000 40 (.agg (vals M.l).toArray) (.agg (vals M.l).toArray)).run Tryz.prog w = .ok true w := by rw [eql_lk M M w]; simp
section
variable {ops : Array Oper} {S : World → Prop} {o : Oper} {a : Act} {u : World} {rest : List Oper} {Q : Exit → Act → World → Prop}
theorem neq_same {ty : TypeId} {xs : List Value} (hge : Tryz.prog.eqGuardType Tryz.prog.depth ty = false) (hq : ∀ W, (Op.equalIn 10000 ty (.agg xs.toArray) (.agg xs.toArray)).run Tryz.prog W = .ok true W) (x y : Operand) (t : TypeId) (ho : o.op = .binOp .neq ty x y t) (hx : a.eval x = .agg xs.toArray) (hy : a.eval y = .agg xs.toArray) (hw : Region.wanted o (yielded ops a.tmps) = true)
    (h : wpList Tryz.prog ops Q rest (a.put o.dst (.bool false)) u) : wpList Tryz.prog ops Q (o :: rest) a u :=
  BigFrame.wpList_want hw fun K hK => by
    have := hK _ _ h
    unfold Oper.wp execOp
    simp only [ho, hx, hy]
    simp [go_sem, hq, hge]
    simpa [Act.put] using this
end
theorem Pf.cHn {p : Pf} {A : Option Addr} {c n : Nat} (h : p.full) (hn : p.hs.length = n) : (p.fd A c).cells[586]? = some (.slice A n c) := by subst hn; exact Pf.cH h
set_option maxHeartbeats 4000000 in
theorem rsame_any (p : Pf) (hp : p.full) (A B : Option Addr) (c d : Nat) (w : World) (h1 : Row w A p.hs.length p.hs) (h2 : Row w B p.hs.length p.hs) :
    Calls Tryz.prog 22 #[.agg (p.fd A c).cells.toArray, .agg (p.fd B d).cells.toArray] w fun e w' => e = .returned (.bool true) ∧ Below w.heap.size w w' := by
  have HCL := Lib.hid (show p.C.length = 579 from hp)
  have HF := Lib.hid hp; clear hp
  obtain ⟨n, hn⟩ : ∃ n, p.hs.length = n := ⟨_, rfl⟩
  have HL := Lib.hid hn
  rw [hn] at h1 h2
  have HK := Lib.hid (KeepF.start (w := w) (rows := [(A, n, p.hs), (B, n, p.hs)]) (by simpa using ⟨h1, h2⟩))
  have HD := Lib.hid h1; have HE := Lib.hid h2; have HNB := Lib.hid h1.2.1
  clear h1 h2 hn
  go_enter Tryz.func22, Tryz.ntmps22
  go_wp2_with (first
    | (with_reducible refine box_f HK.out rfl _ rfl rfl ?_; intro b1 u hk; clear HK; have HK := Lib.hid hk; clear hk; with_reducible refine box_f HK.out rfl _ rfl rfl ?_; intro b2 u hk; clear HK; have HK := Lib.hid hk; clear hk)
    | (with_reducible refine load_f1 HK.out 1 cbS _ rfl rfl rfl rfl Pf.cn ?_)
    | (with_reducible refine load_f1 HK.out 0 cbS _ rfl rfl rfl rfl Pf.cn ?_)
    | (with_reducible refine load_f1 HK.out 1 cbI _ rfl rfl rfl rfl Pf.ck ?_)
    | (with_reducible refine load_f1 HK.out 0 cbI _ rfl rfl rfl rfl Pf.ck ?_)
    | (with_reducible refine load_f1 HK.out 1 cbI _ rfl rfl rfl rfl Pf.ce ?_)
    | (with_reducible refine load_f1 HK.out 0 cbI _ rfl rfl rfl rfl Pf.ce ?_)
    | (with_reducible refine load_fr HK.out 1 Tryz.underlying38 rfl (Pf.infoC HF.out) _ rfl rfl rfl rfl Pf.cC ?_)
    | (with_reducible refine load_fr HK.out 0 Tryz.underlying38 rfl (Pf.infoC HF.out) _ rfl rfl rfl rfl Pf.cC ?_)
    | (with_reducible refine load_fr HK.out 1 Tryz.underlying40 rfl (l_infoF _) _ rfl rfl rfl rfl (Pf.cL HF.out) ?_)
    | (with_reducible refine load_fr HK.out 0 Tryz.underlying40 rfl (l_infoF _) _ rfl rfl rfl rfl (Pf.cL HF.out) ?_)
    | (with_reducible refine load_f1 HK.out 1 cbH _ rfl rfl rfl rfl (Pf.cHn HF.out HL.out) ?_)
    | (with_reducible refine load_f1 HK.out 0 cbH _ rfl rfl rfl rfl (Pf.cHn HF.out HL.out) ?_)
    | (with_reducible refine neq_same c_guardF (c_same _ HCL.out) _ _ _ rfl rfl rfl rfl ?_)
    | (with_reducible refine neq_same lk_guard (l_same _) _ _ _ rfl rfl rfl rfl ?_))
  go_loopw [5] (fun i wr => ∃ m : Nat, m ≤ n ∧ i = .int .i64 m ∧ KeepF w [(b2, 43, (p.fd B d).cells), (b1, 43, (p.fd A c).cells)] [(A, n, p.hs), (B, n, p.hs)] wr) (fun i _ => n - (intOf i).toNat)
  case atStart => exact ⟨0, by omega, rfl, HK.out⟩
  case round =>
    obtain ⟨m, hm, rfl, hk⟩ := hrel
    clear HK; have HK := Lib.hid hk; clear hk
    have hnb := HNB.out
    by_cases hlt : m < n
    · obtain ⟨g1, o1, rfl, hr1⟩ := HD.out.at hlt
      obtain ⟨g2, o2, rfl, hr2⟩ := HE.out.at hlt
      have hm1 := hr1 m hlt
      have hm2 := hr2 m hlt
      clear hr1 hr2
      generalize p.hs.getD m z5 = h at hm1 hm2
      have HR := Lib.hid hm1; have HC := Lib.hid (range_lt hm1)
      have HR2 := Lib.hid hm2; have HC2 := Lib.hid (range_lt hm2)
      clear hm1 hm2
      have i1 : (0 : Int) ≤ (m : Int) := by omega
      have i2 : (m : Int) < (n : Int) := by omega
      go_wp2_with (first
        | (with_reducible refine load_f1 HK.out 1 cbH _ rfl rfl rfl rfl (Pf.cHn HF.out HL.out) ?_)
        | (with_reducible refine load_f1 HK.out 0 cbH _ rfl rfl rfl rfl (Pf.cHn HF.out HL.out) ?_))
      refine Draws.start (S := fun u => KeepF w [(b2, 43, (p.fd (some ⟨g2, o2, none⟩) d).cells), (b1, 43, (p.fd (some ⟨g1, o1, none⟩) c).cells)] [(some ⟨g1, o1, none⟩, n, p.hs), (some ⟨g2, o2, none⟩, n, p.hs)] u) (n := 11) 11 rfl (by kernel_rfl) ?_
      have hk := HK.out.drew
      clear HK; have HK := Lib.hid hk; clear hk
      have HS := Lib.hid (show (fun u => KeepF w [(b2, 43, (p.fd (some ⟨g2, o2, none⟩) d).cells), (b1, 43, (p.fd (some ⟨g1, o1, none⟩) c).cells)] [(some ⟨g1, o1, none⟩, n, p.hs), (some ⟨g2, o2, none⟩, n, p.hs)] u) _ from HK.out)
      refine Draws.take 0 (v := ?v20) HS.out rfl (by kernel_rfl) (fun _ _ _ h => h) (Or.inl ⟨rfl, ?h20⟩) ?r20
      case h20 => intro w' hw'; go_simp; (try with_reducible rfl)
      (try simp only [Act.put, lsA, lsB, lsC])
      refine Draws.take 1 HS.out rfl (by kernel_rfl) (fun _ _ _ h => h) (yield_c cbH (fun _ h => h.cellAt 1 rfl (Pf.cHn HF.out HL.out)) _ rfl rfl rfl) ?_
      (try simp only [Act.put, lsA, lsB, lsC])
      refine Draws.take 2 (v := ?v21) HS.out rfl (by kernel_rfl) (fun _ _ _ h => h) (Or.inl ⟨rfl, ?h21⟩) ?r21
      case h21 => intro w' hw'; go_simp; (try with_reducible rfl)
      (try simp only [Act.put, lsA, lsB, lsC])
      refine Draws.take 3 (v := ?v22) HS.out rfl (by kernel_rfl) (fun _ _ _ h => h) (Or.inl ⟨rfl, ?h22⟩) ?r22
      case h22 => intro w' hw'; go_simp; (try with_reducible rfl)
      (try simp only [Act.put, lsA, lsB, lsC])
      refine Draws.take 4 HS.out rfl (by kernel_rfl) (fun _ _ _ h => h) (yield_hold (fun _ h => range_below HR.out h.bel HC.out) _ rfl rfl rfl) ?_
      (try simp only [Act.put, lsA, lsB, lsC])
      refine Draws.take 5 (v := ?v23) HS.out rfl (by kernel_rfl) (fun _ _ _ h => h) (Or.inl ⟨rfl, ?h23⟩) ?r23
      case h23 => intro w' hw'; go_simp; (try with_reducible rfl)
      (try simp only [Act.put, lsA, lsB, lsC])
      refine Draws.take 6 HS.out rfl (by kernel_rfl) (fun _ _ _ h => h) (yield_c cbH (fun _ h => h.cellAt 0 rfl (Pf.cHn HF.out HL.out)) _ rfl rfl rfl) ?_
      (try simp only [Act.put, lsA, lsB, lsC])
      refine Draws.take 7 (v := ?v24) HS.out rfl (by kernel_rfl) (fun _ _ _ h => h) (Or.inl ⟨rfl, ?h24⟩) ?r24
      case h24 => intro w' hw'; go_simp; (try with_reducible rfl)
      (try simp only [Act.put, lsA, lsB, lsC])
      refine Draws.take 8 (v := ?v25) HS.out rfl (by kernel_rfl) (fun _ _ _ h => h) (Or.inl ⟨rfl, ?h25⟩) ?r25
      case h25 => intro w' hw'; go_simp; (try with_reducible rfl)
      (try simp only [Act.put, lsA, lsB, lsC])
      refine Draws.take 9 HS.out rfl (by kernel_rfl) (fun _ _ _ h => h) (yield_hold (fun _ h => range_below HR2.out h.bel HC2.out) _ rfl rfl rfl) ?_
      (try simp only [Act.put, lsA, lsB, lsC])
      refine Draws.take 10 HS.out rfl (by kernel_rfl) (fun _ _ _ h => h) (yield_neqh (Ho.same _) _ _ _ rfl rfl rfl rfl) ?_
      (try simp only [Act.put, lsA, lsB, lsC])
      refine Draws.done (by kernel_rfl) ?_
      clear HS
      go_wp2
      go_roundw
      case rel => exact ⟨m + 1, by omega, by go_num, HK.out⟩
      case measure => simp [intOf]; omega
    · obtain rfl : m = n := by omega
      go_wp2_with (first
        | (with_reducible refine load_f1 HK.out 1 cbH _ rfl rfl rfl rfl (Pf.cHn HF.out HL.out) ?_)
        | (with_reducible refine load_f1 HK.out 0 cbH _ rfl rfl rfl rfl (Pf.cHn HF.out HL.out) ?_))
      go_ret
      exact ⟨rfl, HK.out.bel⟩

end Go.Proofs.YtgblnlpfgdbnnaaGreat
